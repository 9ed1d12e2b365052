/-
  What the schemes' functions of package address answer.
-/
import Derived.Test.YtkcnageeamappaaGreatDoorJLaid
import Derived.Test.YtkcnageeamappaaGreatDoorJAPlain
import Derived.Lib.Replace
import Derived.Lib.CountLaws
import Derived.Lib.LastIndexByte
import Derived.Lib.SlTrimSet
namespace Go.Proofs
open Go.RowKit Go.Moor

theorem ba_ne (s : ByteArray) (l : List UInt8) (h : ¬ s.data.toList = l) : (s.toList == l) = false := by
  rw [beq_eq_false_iff_ne, Lib.toList_data]
  exact h
theorem ba_eq (s : ByteArray) (l : List UInt8) (h : s.data.toList = l) : s = ⟨l.toArray⟩ := by
  rw [← h]
set_option maxHeartbeats 1000000 in
theorem Tryz.ownPort_any (s : ByteArray) (w : World) :
    Calls Tryz.prog 185 #[.string s] w fun e w' => e = .returned (.tuple #[.int .i64 (ownPort s.data.toList).1, .bool (ownPort s.data.toList).2]) ∧ w' = w := by
  by_cases h1 : s.data.toList = sHttp
  · rw [ba_eq s _ h1]
    go_enter Tryz.func185, Tryz.ntmps185
    go_wp2
    go_ret2
    exact ⟨rfl, rfl⟩
  by_cases h2 : s.data.toList = sWs
  · rw [ba_eq s _ h2]
    go_enter Tryz.func185, Tryz.ntmps185
    go_wp2
    go_ret2
    exact ⟨rfl, rfl⟩
  by_cases h3 : s.data.toList = sHttps
  · rw [ba_eq s _ h3]
    go_enter Tryz.func185, Tryz.ntmps185
    go_wp2
    go_ret2
    exact ⟨rfl, rfl⟩
  by_cases h4 : s.data.toList = sWss
  · rw [ba_eq s _ h4]
    go_enter Tryz.func185, Tryz.ntmps185
    go_wp2
    go_ret2
    exact ⟨rfl, rfl⟩
  by_cases h5 : s.data.toList = sFtp
  · rw [ba_eq s _ h5]
    go_enter Tryz.func185, Tryz.ntmps185
    go_wp2
    go_ret2
    exact ⟨rfl, rfl⟩
  by_cases h6 : s.data.toList = sFile
  · rw [ba_eq s _ h6]
    go_enter Tryz.func185, Tryz.ntmps185
    go_wp2
    go_ret2
    exact ⟨rfl, rfl⟩
  have HE : Hid (ownPort s.data.toList = (-1, false)) := by
    show _ = _
    unfold ownPort
    rw [if_neg (by simp [h1, h2]), if_neg (by simp [h3, h4]), if_neg h5, if_neg h6]
  have e1 : (s.toList == [104, 116, 116, 112]) = false := ba_ne s _ h1
  have e2 : (s.toList == [119, 115]) = false := ba_ne s _ h2
  have e3 : (s.toList == [104, 116, 116, 112, 115]) = false := ba_ne s _ h3
  have e4 : (s.toList == [119, 115, 115]) = false := ba_ne s _ h4
  have e5 : (s.toList == [102, 116, 112]) = false := ba_ne s _ h5
  have e6 : (s.toList == [102, 105, 108, 101]) = false := ba_ne s _ h6
  clear h1 h2 h3 h4 h5 h6
  go_enter Tryz.func185, Tryz.ntmps185
  go_wp2
  go_ret2
  rw [HE.out]
  exact ⟨rfl, rfl⟩

theorem Tryz.isSpecial_any (s : ByteArray) (w : World) :
    Calls Tryz.prog 126 #[.string s] w fun e w' => e = .returned (.bool (special s.data.toList)) ∧ w' = w := by
  go_enter Tryz.func126, Tryz.ntmps126
  go_wp2_with fail
  refine (Tryz.ownPort_any s _).mono ?_
  rintro e w' ⟨rfl, rfl⟩
  go_wp2
  go_ret
  exact ⟨rfl, rfl⟩
theorem Tryz.querySet_any (s : ByteArray) (w : World) :
    Calls Tryz.prog 104 #[.string s] w fun e w' => e = .returned (.int .i64 (querySet s.data.toList)) ∧ w' = w := by
  cases h : special s.data.toList with
  | true =>
    have HQ : Hid (querySet s.data.toList = 3) := by show _ = _; unfold querySet; rw [if_pos h]
    go_enter Tryz.func104, Tryz.ntmps104
    go_wp2_with fail
    refine (Tryz.isSpecial_any s _).mono ?_
    rw [h]
    rintro e w' ⟨rfl, rfl⟩
    go_wp2
    go_ret
    rw [HQ.out]
    exact ⟨rfl, rfl⟩
  | false =>
    have HQ : Hid (querySet s.data.toList = 2) := by show _ = _; unfold querySet; rw [if_neg (by simp [h])]
    go_enter Tryz.func104, Tryz.ntmps104
    go_wp2_with fail
    refine (Tryz.isSpecial_any s _).mono ?_
    rw [h]
    rintro e w' ⟨rfl, rfl⟩
    go_wp2
    go_ret
    rw [HQ.out]
    exact ⟨rfl, rfl⟩

def lettersL : List UInt8 := [65, 66, 67, 68, 69, 70, 71, 72, 73, 74, 75, 76, 77, 78, 79, 80, 81, 82, 83, 84, 85, 86, 87, 88, 89, 90, 97, 98, 99, 100, 101, 102, 103, 104, 105, 106, 107, 108, 109, 110, 111, 112, 113, 114, 115, 116, 117, 118, 119, 120, 121, 122]
theorem letters_fin : ∀ c : Fin 256, decide (0 ≤ Lib.indexByte lettersL c.val.toUInt8) = isLetter c.val.toUInt8 := by decide +kernel
theorem letters_is (c : UInt8) : decide (0 ≤ Lib.indexByte lettersL c) = isLetter c := by
  have := letters_fin ⟨c.toNat, c.toNat_lt⟩
  simpa using this

set_option maxHeartbeats 1000000 in
theorem Tryz.beginsWithLetter_any (s : ByteArray) (w : World) :
    Calls Tryz.prog 240 #[.string s] w fun e w' => e = .returned (.bool (begLetter s.data.toList)) ∧ w' = w := by
  by_cases hem : s.size = 0
  · have hs : s.toList.isEmpty = true := by
      rw [Lib.toList_data]
      have : s.data.toList = [] := List.eq_nil_of_length_eq_zero (by rw [← Lib.size_eq]; exact hem)
      rw [this]
      rfl
    have HE : Hid (begLetter s.data.toList = false) := by
      have : s.data.toList = [] := List.eq_nil_of_length_eq_zero (by rw [← Lib.size_eq]; exact hem)
      show _ = _
      rw [this]
      rfl
    clear hem
    go_enter Tryz.func240, Tryz.ntmps240
    go_wp2
    go_ret
    rw [HE.out]
    exact ⟨rfl, rfl⟩
  · have hs : s.toList.isEmpty = false := by
      rw [Lib.toList_data]
      cases h : s.data.toList with
      | nil => exact absurd (by rw [Lib.size_eq, h]; rfl) hem
      | cons c r => rfl
    have h0 : 0 < s.size := by omega
    have HE : Hid (begLetter s.data.toList = isLetter s[0]) := by
      show _ = _
      have e : s.data.toList[0]? = some s[0] := by
        rw [List.getElem?_eq_getElem (by rw [← Lib.size_eq]; exact h0)]
        rfl
      cases h : s.data.toList with
      | nil => exact absurd (by rw [Lib.size_eq, h]; rfl) hem
      | cons c r =>
        rw [h] at e
        simp at e
        rw [← e]
        rfl
    clear hem
    by_cases hl : (0 : Int) ≤ Lib.indexByte lettersL s[0]
    · have HL : Hid (isLetter s[0] = true) := by show _ = _; rw [← letters_is, decide_eq_true hl]
      go_enter Tryz.func240, Tryz.ntmps240
      go_wp2_with (go_at_call 141; refine (Tryz.indexByte_yes _ _ _ hl).mono ?_; rintro e w' ⟨⟨i, hi, rfl⟩, rfl⟩)
      go_ret
      rw [HE.out, HL.out]
      exact ⟨rfl, rfl⟩
    · have HL : Hid (isLetter s[0] = false) := by show _ = _; rw [← letters_is, decide_eq_false hl]
      go_enter Tryz.func240, Tryz.ntmps240
      go_wp2_with (go_at_call 141; refine (Tryz.indexByte_no _ _ _ hl).mono ?_; rintro e w' ⟨⟨i, hi, rfl⟩, rfl⟩)
      go_ret
      rw [HE.out, HL.out]
      refine ⟨?_, rfl⟩
      simp
      omega
end Go.Proofs
/-
  Draws leave memory as it is.
-/
namespace Go.Proofs
open Go.RowKit Go.Moor

theorem drew_here (k : Nat) (w : World) (n : Nat) : Below k w (w.drewN n) := ⟨rfl, rfl, rfl, Nat.le_refl _, fun _ _ => rfl⟩
theorem drew_on {k : Nat} {w w' : World} (h : Below k w w') (n : Nat) : Below k w (w'.drewN n) := h.trans (drew_here _ _ _)
end Go.Proofs
/-
  Plain mathematics: what the library's functions on lists of bytes are, said by the plain functions on addresses; no program is named here.
-/
namespace Go.Moor
open Go

theorem cut_cutB (c : UInt8) (l : Bs) : Lib.cut l [c] = match cutB c l with | some (a, b) => (a, b, true) | none => (l, [], false) := by
  have none' : ∀ l : Bs, (∀ x ∈ l, x ≠ c) → cutB c l = none := by
    intro l
    induction l with
    | nil => intro _; rfl
    | cons b l ih =>
      intro h
      rw [cutB, if_neg (h b (by simp)), ih (fun x hx => h x (by simp [hx]))]
      rfl
  have some' : ∀ p r : Bs, (∀ x ∈ p, x ≠ c) → cutB c (p ++ c :: r) = some (p, r) := by
    intro p r
    induction p with
    | nil => intro _; simp [cutB]
    | cons b p ih =>
      intro h
      show cutB c (b :: (p ++ c :: r)) = _
      rw [cutB, if_neg (h b (by simp)), ih (fun x hx => h x (by simp [hx]))]
      rfl
  rcases cut_split c l with ⟨h1, h2⟩ | ⟨p, r, rfl, h2, h3⟩
  · rw [h1, none' l h2]
  · rw [h3, some' p r h2]
theorem cutOpt_cut (c : UInt8) (l : Bs) : Lib.cut l [c] = ((cutOpt c l).1, (cutOpt c l).2.getD [], (cutOpt c l).2.isSome) := by
  rw [cut_cutB]
  unfold cutOpt
  cases cutB c l with
  | none => rfl
  | some p => rfl

-- a byte for a text
def swapB (c : UInt8) (n : Bs) (b : UInt8) : Bs := if b = c then n else [b]
theorem swap_none (c : UInt8) (n : Bs) : ∀ l : Bs, (∀ x ∈ l, x ≠ c) → l.flatMap (swapB c n) = l
  | [], _ => rfl
  | b :: l, h => by
    rw [List.flatMap_cons, swap_none c n l (fun x hx => h x (by simp [hx]))]
    unfold swapB
    rw [if_neg (h b (by simp))]
    rfl
theorem replaceK_one (c : UInt8) (n : Bs) : ∀ (k : Nat) (l : Bs), l.count c ≤ k → Lib.replaceK [c] n k l = l.flatMap (swapB c n)
  | 0, l, h => by
    rw [swap_none c n l (fun x hx e => by subst e; have := List.count_pos_iff.2 hx; omega)]
    rfl
  | k + 1, l, h => by
    rcases indexByte_split c l with ⟨hi, hno⟩ | ⟨p, r, rfl, hno, hi⟩
    · rw [Lib.replaceK, Lib.index_one, hi, if_pos (by rfl), swap_none c n l hno]
    · have hc : List.count c p = 0 := List.count_eq_zero_of_not_mem (fun hm => hno c hm rfl)
      have hr : List.count c r ≤ k := by
        rw [List.count_append, hc, List.count_cons_self] at h
        omega
      rw [Lib.replaceK_hit [c] n k _ p.length (by rw [Lib.index_one, hi]), List.take_left, show List.drop (p.length + [c].length) (p ++ c :: r) = r by simp, replaceK_one c n k r hr, List.flatMap_append, List.flatMap_cons, swap_none c n p hno]
      unfold swapB
      rw [if_pos rfl]
      simp
theorem replaceAll_one (c : UInt8) (n l : Bs) : Lib.replaceAll l [c] n = l.flatMap (swapB c n) := by
  unfold Lib.replaceAll Lib.replace
  split
  · rename_i h
    have h := beq_iff_eq.1 h
    subst h
    have : ∀ l : Bs, l.flatMap (swapB c [c]) = l := by
      intro l
      induction l with
      | nil => rfl
      | cons b l ih =>
        rw [List.flatMap_cons, ih]
        unfold swapB
        by_cases e : b = c
        · rw [if_pos e, e]; rfl
        · rw [if_neg e]; rfl
    rw [this]
  · refine replaceK_one c n _ l ?_
    unfold Lib.replaceNum
    rw [if_pos (Or.inl (by omega)), Lib.count_one]
    exact Nat.le_refl _
theorem swap_drop (c : UInt8) (l : Bs) : l.flatMap (swapB c []) = l.filter (· ≠ c) := by
  induction l with
  | nil => rfl
  | cons b l ih =>
    rw [List.flatMap_cons, ih]
    unfold swapB
    by_cases e : b = c
    · rw [if_pos e, List.filter_cons_of_neg (by simp [e])]; rfl
    · rw [if_neg e, List.filter_cons_of_pos (by simp [e])]; rfl
theorem swap_map (c d : UInt8) (l : Bs) : l.flatMap (swapB c [d]) = l.map fun b => if b = c then d else b := by
  induction l with
  | nil => rfl
  | cons b l ih =>
    rw [List.flatMap_cons, ih, List.map_cons]
    unfold swapB
    by_cases e : b = c
    · rw [if_pos e, if_pos e]; rfl
    · rw [if_neg e, if_neg e]; rfl
theorem breaks_filter (l : Bs) : ((l.filter (· ≠ 9)).filter (· ≠ 10)).filter (· ≠ 13) = l.filter fun c => !breakB c := by
  rw [List.filter_filter, List.filter_filter]
  congr 1
  funext c
  by_cases h1 : c = 9 <;> by_cases h2 : c = 10 <;> by_cases h3 : c = 13 <;> simp [breakB, h1, h2, h3]

-- the dots' escapes
def pE : Bs := [37, 50, 69]
def pe : Bs := [37, 50, 101]
theorem low_step (b : UInt8) (l : Bs) (h : pE.isPrefixOf (b :: l) = false) : lowDots (b :: l) = b :: lowDots l := by
  rw [lowDots]
  intro l' hb hl
  subst hb
  subst hl
  simp [pE, List.isPrefixOf] at h
theorem low_split : ∀ l : Bs, (Lib.index l pE = -1 ∧ lowDots l = l) ∨ ∃ p r, l = p ++ (pE ++ r) ∧ Lib.index l pE = p.length ∧ lowDots l = p ++ (pe ++ lowDots r)
  | [] => Or.inl ⟨rfl, rfl⟩
  | b :: l => by
    cases hp : pE.isPrefixOf (b :: l) with
    | true =>
      obtain ⟨r, hr⟩ := List.isPrefixOf_iff_prefix.1 hp
      refine Or.inr ⟨[], r, hr.symm, ?_, ?_⟩
      · rw [Lib.index, hp]
        rfl
      · rw [← hr]
        rfl
    | false =>
      rcases low_split l with ⟨h1, h2⟩ | ⟨p, r, h1, h2, h3⟩
      · refine Or.inl ⟨?_, ?_⟩
        · rw [Lib.index, hp, h1]
          rfl
        · rw [low_step b l hp, h2]
      · refine Or.inr ⟨b :: p, r, by rw [h1]; rfl, ?_, ?_⟩
        · rw [Lib.index, hp, h2]
          have : ((p.length : Int) == -1) = false := beq_eq_false_iff_ne.2 (by omega)
          rw [this]
          simp
        · rw [low_step b l hp, h3]
          rfl
theorem low_fuel : ∀ (k : Nat) (l : Bs), Lib.countFrom pE k l ≤ k → l.length < k → Lib.replaceK pE pe (Lib.countFrom pE k l) l = lowDots l
  | 0, l, _, h => by omega
  | k + 1, l, _, h => by
    rcases low_split l with ⟨h1, h2⟩ | ⟨p, r, h1, h2, h3⟩
    · rw [Lib.countFrom, h1, if_pos (by rfl), h2]
      rfl
    · have e : ((p.length : Int) == -1) = false := beq_eq_false_iff_ne.2 (by omega)
      have ed : List.drop (p.length + pE.length) l = r := by rw [h1, ← List.append_assoc, List.drop_left' (by simp)]
      have hlen : l.length = p.length + 3 + r.length := by rw [h1]; simp [pE]; omega
      rw [Lib.countFrom, h2, e]
      simp only [Bool.false_eq_true, if_false, Int.toNat_natCast]
      rw [ed, Nat.add_comm 1, Lib.replaceK_hit pE pe _ l p.length h2, ed, h3]
      have ih : Lib.replaceK pE pe (Lib.countFrom pE k r) r = lowDots r := by
        have hf := Lib.countFrom_fuel (sub := pE) (by decide) k r (by omega) (r.length + 1) (by omega)
        by_cases hk : Lib.countFrom pE k r ≤ k
        · exact low_fuel k r hk (by omega)
        · have hle : ∀ (f : Nat) (x : Bs), Lib.countFrom pE f x ≤ f := by
            intro f
            induction f with
            | zero => intro x; exact Nat.le_refl _
            | succ f ih =>
              intro x
              rw [Lib.countFrom]
              split
              · omega
              · have := ih (List.drop ((Lib.index x pE).toNat + pE.length) x)
                omega
          exact absurd (hle k r) hk
      rw [ih, h1]
      simp
theorem replaceAll_low (l : Bs) : Lib.replaceAll l pE pe = lowDots l := by
  have hle : ∀ (f : Nat) (x : Bs), Lib.countFrom pE f x ≤ f := by
    intro f
    induction f with
    | zero => intro x; exact Nat.le_refl _
    | succ f ih =>
      intro x
      rw [Lib.countFrom]
      split
      · omega
      · have := ih (List.drop ((Lib.index x pE).toNat + pE.length) x)
        omega
  unfold Lib.replaceAll Lib.replace
  rw [if_neg (by decide)]
  unfold Lib.replaceNum
  rw [if_pos (Or.inl (by omega))]
  exact low_fuel (l.length + 1) l (hle _ _) (by omega)

-- what is left of a scheme's name
theorem trimS_all (l cs : Bs) : (Lib.trimS l cs).isEmpty = l.all fun b => cs.contains b := by
  unfold Lib.trimS Lib.trimLeftS Lib.trimRightS
  cases h : l.all fun b => cs.contains b with
  | true =>
    have h2 : ∀ b ∈ l.reverse, cs.contains b = true := fun b hb => List.all_eq_true.1 h b (by simpa using hb)
    have e : l.reverse.dropWhile (cs.contains ·) = [] := by
      have := List.dropWhile_append_of_pos (p := fun b => cs.contains b) (l₁ := l.reverse) (l₂ := []) h2
      simpa using this
    rw [e]
    rfl
  | false =>
    have key : ∀ x : Bs, (x.dropWhile (cs.contains ·)).isEmpty = true → ∀ b ∈ x, cs.contains b = true := by
      intro x
      induction x with
      | nil => intro _ b hb; cases hb
      | cons a x ih =>
        intro hx b hb
        by_cases ha : cs.contains a = true
        · rw [List.dropWhile_cons_of_pos ha] at hx
          rcases List.mem_cons.1 hb with rfl | hb
          · exact ha
          · exact ih hx b hb
        · rw [List.dropWhile_cons_of_neg ha] at hx
          cases hx
    cases hE : (((l.reverse.dropWhile (cs.contains ·)).reverse).dropWhile (cs.contains ·)).isEmpty with
    | false => rfl
    | true =>
      have h1 := key _ hE
      have h2 : (l.reverse.dropWhile (cs.contains ·)).isEmpty = true := by
        cases hd : l.reverse.dropWhile (cs.contains ·) with
        | nil => rfl
        | cons a x =>
          have ha : cs.contains a = true := h1 a (by rw [hd]; simp)
          have hn := List.head?_dropWhile_not (p := (cs.contains ·)) l.reverse
          rw [hd] at hn
          simp at hn
          rw [List.contains_iff_mem] at ha
          exact absurd ha hn
      have h3 := key _ h2
      have : (l.all fun b => cs.contains b) = true := List.all_eq_true.2 fun b hb => h3 b (by simpa using hb)
      rw [this] at h
      cases h
end Go.Moor
