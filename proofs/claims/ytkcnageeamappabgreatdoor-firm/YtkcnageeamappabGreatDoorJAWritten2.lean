/-
  Plain mathematics on addresses that are written in many ways: capitals, blanks and line ends, backslashes, slashes too many or none, its own port, dots that go nowhere, what must be escaped.
-/
import Derived.Test.YtkcnageeamappabGreatDoorJABeside2
namespace Go.Moor
open Go

-- blanks and line ends
theorem drop_blank (p : UInt8 → Bool) (a b : Bs) (ha : ∀ c ∈ a, p c = true) : (a ++ b).dropWhile p = b.dropWhile p := by
  rw [List.dropWhile_append_of_pos ha]
theorem drop_core (p : UInt8 → Bool) (a b : Bs) (ha : ∀ c ∈ a, p c = false) (hn : a ≠ []) : (a ++ b).dropWhile p = a ++ b := by
  cases a with
  | nil => exact absurd rfl hn
  | cons c a => rw [List.cons_append, List.dropWhile_cons_of_neg (by simp [ha c (by simp)])]
theorem blank_core (c : UInt8) (h : 33 ≤ c.toNat) : blankB c = false := by unfold blankB; simp; omega
theorem filter_core (l : Bs) (h : ∀ c ∈ l, 33 ≤ c.toNat) : l.filter (fun c => !breakB c) = l := by
  rw [List.filter_eq_self]
  intro c hc
  have := h c hc
  have e : ∀ k : Nat, k < 33 → c ≠ k.toUInt8 := by
    intro k hk e
    rw [e] at this
    have : (k.toUInt8).toNat = k := by rw [show k.toUInt8.toNat = k % 256 from rfl]; omega
    omega
  have e9 : c ≠ 9 := e 9 (by omega)
  have e10 : c ≠ 10 := e 10 (by omega)
  have e13 : c ≠ 13 := e 13 (by omega)
  simp [breakB, e9, e10, e13]
theorem trimB_core (a b c : Bs) (ha : ∀ x ∈ a, blankB x = true) (hb : ∀ x ∈ c, blankB x = true) (hf : ∀ x, b.head? = some x → blankB x = false) (hl : ∀ x, b.getLast? = some x → blankB x = false) : trimB blankB (a ++ (b ++ c)) = b := by
  unfold trimB
  rw [drop_blank _ a _ ha]
  cases hb0 : b with
  | nil =>
    have e : c.dropWhile blankB = [] := by
      have := List.dropWhile_append_of_pos (p := blankB) (l₁ := c) (l₂ := []) hb
      simpa using this
    show ((([] ++ c).dropWhile blankB).reverse.dropWhile blankB).reverse = []
    rw [List.nil_append, e]
    rfl
  | cons x r =>
    rw [hb0] at hf hl
    have h1 : ((x :: r) ++ c).dropWhile blankB = (x :: r) ++ c := by
      rw [List.cons_append, List.dropWhile_cons_of_neg (by simp [hf x rfl])]
    rw [h1, List.reverse_append, drop_blank _ c.reverse _ (fun y hy => hb y (by simpa using hy))]
    have h2 : (x :: r).reverse.dropWhile blankB = (x :: r).reverse := by
      cases hr : (x :: r).reverse with
      | nil => rfl
      | cons y ys =>
        have : (x :: r).getLast? = some y := by
          rw [← List.head?_reverse, hr]
          rfl
        rw [List.dropWhile_cons_of_neg (by simp [hl y this])]
    rw [h2, List.reverse_reverse]
/-- Two blanks ahead, a line's end somewhere behind them, a blank at the end. -/
theorem strip_written (a b : Bs) (ha : ∀ c ∈ a, 33 ≤ c.toNat) (hb : ∀ c ∈ b, 33 ≤ c.toNat) : stripB ([32, 32] ++ (a ++ ([10, 9, 13] ++ (b ++ [32])))) = a ++ b := by
  have hab : ∀ c ∈ a ++ b, 33 ≤ c.toNat := by
    intro c hc
    rcases List.mem_append.1 hc with hc | hc
    · exact ha c hc
    · exact hb c hc
  have hd : ∀ (l : Bs), (∀ c ∈ l, 33 ≤ c.toNat) → ∀ x, l.head? = some x → blankB x = false := fun l h x hx => blank_core x (h x (List.mem_of_head? hx))
  have hlt : ∀ (l : Bs), (∀ c ∈ l, 33 ≤ c.toNat) → ∀ x, l.getLast? = some x → blankB x = false := fun l h x hx => blank_core x (h x (List.mem_of_getLast? hx))
  unfold stripB
  by_cases h1 : a = []
  · have e : [32, 32] ++ (a ++ ([10, 9, 13] ++ (b ++ [32]))) = [32, 32, 10, 9, 13] ++ (b ++ [32]) := by rw [h1]; simp
    rw [e, trimB_core _ b [32] (by decide) (by decide) (hd b hb) (hlt b hb), filter_core b hb, h1]
    rfl
  · by_cases h2 : b = []
    · have e : [32, 32] ++ (a ++ ([10, 9, 13] ++ (b ++ [32]))) = [32, 32] ++ (a ++ [10, 9, 13, 32]) := by rw [h2]; simp
      rw [e, trimB_core _ a _ (by decide) (by decide) (hd a ha) (hlt a ha), filter_core a ha, h2, List.append_nil]
    · have e : [32, 32] ++ (a ++ ([10, 9, 13] ++ (b ++ [32]))) = [32, 32] ++ ((a ++ ([10, 9, 13] ++ b)) ++ [32]) := by simp
      rw [e, trimB_core _ (a ++ ([10, 9, 13] ++ b)) [32] (by decide) (by decide) (by
        intro x hx
        cases a with
        | nil => exact absurd rfl h1
        | cons y r => exact hd (y :: r) ha x (by simpa using hx)) (by
        intro x hx
        refine hlt b hb x ?_
        rw [List.getLast?_append, List.getLast?_append] at hx
        cases hbl : b.getLast? with
        | none => rw [List.getLast?_eq_none_iff] at hbl; exact absurd hbl h2
        | some y => rw [hbl] at hx; simpa using hx), List.filter_append, List.filter_append, filter_core a ha, filter_core b hb]
      simp [breakB]

-- slashes, a host, its port, a path
def slashTxt : Nat → Bs
  | 0 => []
  | 1 => [47]
  | 2 => [47, 47]
  | 3 => [92]
  | 4 => [92, 47]
  | _ => [47, 47, 47, 47, 92]
def sepTxt : Nat → Bs
  | 0 => [47]
  | 1 => [92]
  | 2 => [47, 46, 47]
  | _ => [47, 120, 47, 46, 46, 47]
def sepSegs : Nat → List Bs
  | 0 => []
  | 1 => []
  | 2 => [[46]]
  | _ => [[120], [46, 46]]
/-- The path as it is written: each word behind its separator. -/
def writtenTxt (l : List (Nat × Bs)) : Bs := l.flatMap fun y => sepTxt y.1 ++ y.2
def writtenSegs (l : List (Nat × Bs)) : List Bs := l.flatMap fun y => sepSegs y.1 ++ [y.2]
theorem slash_even (k : Nat) : ∀ c ∈ (slashTxt k).map evenB, c = 47 := by
  match k with
  | 0 => decide
  | 1 => decide
  | 2 => decide
  | 3 => decide
  | 4 => decide
  | k + 5 => show ∀ c ∈ ([47, 47, 47, 47, 92] : Bs).map evenB, c = 47; decide
theorem sep_even (k : Nat) (p : Bs) (hp : ∀ c ∈ p, c ≠ 92) : (sepTxt k ++ p).map evenB = tellSegs (sepSegs k ++ [p]) := by
  rw [List.map_append, even_id p hp, tellSegs_app]
  match k with
  | 0 => simp [sepTxt, sepSegs, tellSegs, evenB]
  | 1 => simp [sepTxt, sepSegs, tellSegs, evenB]
  | 2 => simp [sepTxt, sepSegs, tellSegs, evenB]
  | k + 3 => simp [sepTxt, sepSegs, tellSegs, evenB]
theorem written_even (l : List (Nat × Bs)) (h : ∀ y ∈ l, wordB y.2) : (writtenTxt l).map evenB = tellSegs (writtenSegs l) := by
  induction l with
  | nil => rfl
  | cons y l ih =>
    have e1 : writtenTxt (y :: l) = (sepTxt y.1 ++ y.2) ++ writtenTxt l := rfl
    have e2 : writtenSegs (y :: l) = (sepSegs y.1 ++ [y.2]) ++ writtenSegs l := rfl
    rw [e1, e2, List.map_append, tellSegs_app, ih (fun z hz => h z (by simp [hz])), sep_even _ _ (fun c hc => (word_calm _ (h y (by simp)) c hc).2.2.2)]
theorem sep_loop (s : Bs) (hs : s ≠ sFile) (k : Nat) (p : Bs) (hp : wordB p) (segs r : List Bs) : segLoop s segs ((sepSegs k ++ [p]) ++ r) = segLoop s (segs ++ [p]) r := by
  have hx : wordB [120] := ⟨by decide, by unfold smallB; decide +kernel⟩
  have one : ∀ segs : List Bs, segLoop s segs (p :: r) = segLoop s (segs ++ [p]) r := fun segs => segLoop_stays s r [p] segs (by intro q hq; simp at hq; subst hq; exact stays_word s q hp)
  match k with
  | 0 => exact one segs
  | 1 => exact one segs
  | 2 =>
    show segLoop s segs ([46] :: p :: r) = _
    rw [segLoop_here s _ (by decide +kernel) _ (by simp), one]
  | k + 3 =>
    show segLoop s segs ([[120]] ++ ([46, 46] :: p :: r)) = _
    rw [segLoop_stays s _ [[120]] segs (by intro q hq; simp at hq; subst hq; exact stays_word s _ hx), segLoop_up s _ (by decide +kernel) _ (by simp), withoutLast_plain s hs, List.dropLast_concat, one]
theorem written_loop (s : Bs) (hs : s ≠ sFile) : ∀ (l : List (Nat × Bs)) (segs : List Bs), (∀ y ∈ l, wordB y.2) → segLoop s segs (writtenSegs l) = segs ++ l.map (·.2)
  | [], segs, _ => by
    show segLoop s segs [] = segs ++ []
    rw [List.append_nil]
    rfl
  | y :: l, segs, h => by
    have e2 : writtenSegs (y :: l) = (sepSegs y.1 ++ [y.2]) ++ writtenSegs l := rfl
    rw [e2, sep_loop s hs _ _ (h y (by simp)), written_loop s hs l _ (fun z hz => h z (by simp [hz]))]
    simp
theorem written_slash (l : List (Nat × Bs)) (h : ∀ y ∈ l, wordB y.2) : ∀ p ∈ writtenSegs l, ∀ c ∈ p, c ≠ 47 := by
  intro p hp
  obtain ⟨y, hy, hm⟩ := List.mem_flatMap.1 hp
  rcases List.mem_append.1 hm with hm | hm
  · revert hm
    match y.1 with
    | 0 => intro hm; simp [sepSegs] at hm
    | 1 => intro hm; simp [sepSegs] at hm
    | 2 => intro hm; simp [sepSegs] at hm; subst hm; decide
    | k + 3 => intro hm; simp [sepSegs] at hm; rcases hm with rfl | rfl <;> decide
  · simp at hm
    subst hm
    exact word_slash _ (h y hy)
theorem trimSlashes_lead (a b : Bs) (ha : ∀ c ∈ a, c = 47) (hb : b.head? ≠ some 47) : trimSlashes (a ++ b) = b := by
  unfold trimSlashes
  rw [List.dropWhile_append_of_pos (by simpa using ha)]
  exact noSlash_trim b hb

section
variable (H : Bs → Bool → Option Bs)

/-- A login, a host, a port. -/
theorem readAuth_port (s big h pt : Bs) (n : Int) (hs : special s = true) (hne : big ≠ []) (hb : ∀ c ∈ big, c ≠ 64 ∧ c ≠ 58 ∧ c ≠ 91) (hp : ∀ c ∈ pt, c ≠ 64) (hh : H big true = some h) (hr : readPort pt s = some n) :
    readAuth H (big ++ 58 :: pt) s = .ok ⟨[], [], true, h, n⟩ := by
  have e1 : cutLogin (big ++ 58 :: pt) = ([], big ++ 58 :: pt) := by
    unfold cutLogin cutLast
    rw [cutB_none 64 _ (by
      intro c hc
      simp only [List.mem_reverse, List.mem_append, List.mem_cons] at hc
      rcases hc with hc | rfl | hc
      · exact (hb c hc).1
      · decide
      · exact hp c hc)]
    rfl
  have e2 : brackets (big ++ 58 :: pt) = 0 := by
    unfold brackets
    rw [if_neg]
    match big, hne, hb with
    | c :: r, _, hb =>
      have := (hb c (by simp)).2.2
      simpa using this
  have e3 : cutPort (big ++ 58 :: pt) = (big, pt) := by
    unfold cutPort
    rw [e2]
    show (match cutB 58 (big ++ 58 :: pt) with | some (a, b) => ([] ++ a, b) | none => (big ++ 58 :: pt, [])) = _
    rw [cutB_some 58 pt big (fun c hc => (hb c hc).2.1)]
    rfl
  have e4 : tellHost H big (big ++ 58 :: pt) s = some h := by
    unfold tellHost
    rw [if_neg (fun x => hne x.1), hs, hh]
  unfold readAuth
  rw [e1]
  show (match tellHost H (cutPort (big ++ 58 :: pt)).1 (big ++ 58 :: pt) s with | none => (Except.error 4 : Except Int Auth) | some x => match readPort (cutPort (big ++ 58 :: pt)).2 s with | none => (Except.error 5 : Except Int Auth) | some p => (.ok ⟨esc 5 (cutOpt 58 []).1, esc 5 ((cutOpt 58 []).2.getD []), true, x, p⟩ : Except Int Auth)) = _
  rw [e3, e4]
  show (match readPort pt s with | none => (Except.error 5 : Except Int Auth) | some p => _) = _
  rw [hr]
  rfl

/-- The first text: its path is told plain, one slash if there is none. -/
theorem written_a (s big h pt : Bs) (k : Nat) (l : List (Nat × Bs)) (hs : s ∈ five) (hne : big ≠ []) (hb : ∀ c ∈ big, calmB c ∧ c ≠ 47 ∧ c ≠ 64 ∧ c ≠ 58 ∧ c ≠ 91) (hpt : ∀ c ∈ pt, calmB c ∧ c ≠ 47 ∧ c ≠ 64) (hh : H big true = some h) (hr : readPort pt s = some (-1)) (hl : ∀ y ∈ l, wordB y.2)
    (a b : Bs) (hab : a ++ b = s ++ 58 :: (slashTxt k ++ (big ++ 58 :: (pt ++ writtenTxt l)))) :
    readAddr H ([32, 32] ++ (a ++ ([10, 9, 13] ++ (b ++ [32])))) none = .ok ⟨s, plainAuth h, ⟨false, [], if l = [] then [[]] else l.map (·.2)⟩, none, none⟩ := by
  obtain ⟨f1, f2, f3, f4, f5, f6⟩ := five_ok s hs
  have hsl : ∀ c ∈ slashTxt k, 33 ≤ c.toNat ∧ c ≠ 35 ∧ c ≠ 63 := by
    match k with
    | 0 => decide
    | 1 => decide
    | 2 => decide
    | 3 => decide
    | 4 => decide
    | k + 5 => show ∀ c ∈ ([47, 47, 47, 47, 92] : Bs), 33 ≤ c.toNat ∧ c ≠ 35 ∧ c ≠ 63; decide
  have hsep : ∀ j : Nat, ∀ c ∈ sepTxt j, 33 ≤ c.toNat ∧ c ≠ 35 ∧ c ≠ 63 := by
    intro j
    match j with
    | 0 => decide
    | 1 => decide
    | 2 => decide
    | j + 3 => show ∀ c ∈ ([47, 120, 47, 46, 46, 47] : Bs), 33 ≤ c.toNat ∧ c ≠ 35 ∧ c ≠ 63; decide
  have hm : ∀ c ∈ slashTxt k ++ (big ++ 58 :: (pt ++ writtenTxt l)), 33 ≤ c.toNat ∧ c ≠ 35 ∧ c ≠ 63 := by
    intro c hc
    simp only [List.mem_append, List.mem_cons] at hc
    rcases hc with hc | hc | rfl | hc | hc
    · exact hsl c hc
    · exact ⟨(hb c hc).1.1, (hb c hc).1.2.1, (hb c hc).1.2.2.1⟩
    · decide
    · exact ⟨(hpt c hc).1.1, (hpt c hc).1.2.1, (hpt c hc).1.2.2.1⟩
    · obtain ⟨y, hy, hx⟩ := List.mem_flatMap.1 hc
      rcases List.mem_append.1 hx with hx | hx
      · exact hsep y.1 c hx
      · exact ⟨(word_calm _ (hl y hy) c hx).1, (word_calm _ (hl y hy) c hx).2.1, (word_calm _ (hl y hy) c hx).2.2.1⟩
  have h33 : ∀ c ∈ a ++ b, 33 ≤ c.toNat := by
    rw [hab]
    intro c hx
    rcases List.mem_append.1 hx with hx | hx
    · exact (f6 c hx).2
    · rcases List.mem_cons.1 hx with rfl | hx
      · decide
      · exact (hm c hx).1
  unfold readAddr
  rw [strip_written a b (fun c hc => h33 c (by simp [hc])) (fun c hc => h33 c (by simp [hc])), hab]
  have := cutMarks_named s (slashTxt k ++ (big ++ 58 :: (pt ++ writtenTxt l))) none none f4 f5 (fun c hx => (f6 c hx).1) (fun c hx => (hm c hx).2) (fun _ h => by cases h)
  rw [show (slashTxt k ++ (big ++ 58 :: (pt ++ writtenTxt l))) ++ (tellOpt 63 none ++ tellOpt 35 none) = slashTxt k ++ (big ++ 58 :: (pt ++ writtenTxt l)) by simp [tellOpt]] at this
  rw [this]
  unfold readCuts
  rw [if_pos f3]
  show readMarked H s (slashTxt k ++ (big ++ 58 :: (pt ++ writtenTxt l))) none none none = _
  unfold readMarked
  have em : evenSlashes s (slashTxt k ++ (big ++ 58 :: (pt ++ writtenTxt l))) = (slashTxt k).map evenB ++ ((big ++ 58 :: pt) ++ tellSegs (writtenSegs l)) := by
    rw [even_map s _ f1, List.map_append, List.map_append, List.map_cons, List.map_append, even_id big (fun c hc => (hb c hc).1.2.2.2), even_id pt (fun c hc => (hpt c hc).1.2.2.2), written_even l hl]
    simp [evenB]
  rw [em]
  unfold readMiddle
  rw [if_neg f2]
  show (match (match (if special s = true then fromAuth H s (trimSlashes ((slashTxt k).map evenB ++ ((big ++ 58 :: pt) ++ tellSegs (writtenSegs l)))) else _) with | .error e => (.error e : Except Int (Auth × Way × Option Bs)) | .ok (a, w) => .ok (a, w, none)) with | .error e => (.error e : Except Int Adr) | .ok (a, w, q2) => .ok ⟨s, a, w, q2, none⟩) = _
  rw [if_pos f1, trimSlashes_lead _ _ (slash_even k) (by
    match big, hne, hb with
    | c :: r, _, hb =>
      have := (hb c (by simp)).2.1
      simpa using this)]
  have hns : ∀ c ∈ big ++ 58 :: pt, c ≠ 47 := by
    intro c hc
    simp only [List.mem_append, List.mem_cons] at hc
    rcases hc with hc | rfl | hc
    · exact (hb c hc).2.1
    · decide
    · exact (hpt c hc).2.1
  have ra := readAuth_port H s big h pt (-1) f1 hne (fun c hc => (hb c hc).2.2) (fun c hc => (hpt c hc).2.2) hh hr
  have ef : fromAuth H s ((big ++ 58 :: pt) ++ tellSegs (writtenSegs l)) = .ok (plainAuth h, ⟨false, [], if l = [] then [[]] else l.map (·.2)⟩) := by
    unfold fromAuth
    cases hw : writtenSegs l with
    | nil =>
      have hl0 : l = [] := by
        cases l with
        | nil => rfl
        | cons y l => simp [writtenSegs] at hw
      show (match readAuth H (cutSlash ((big ++ 58 :: pt) ++ [])).1 s with | .error e => (Except.error e : Except Int (Auth × Way)) | .ok a => .ok (a, readWay s [] (cutSlash ((big ++ 58 :: pt) ++ [])).2)) = _
      rw [List.append_nil, cutSlash_none _ hns, ra, if_pos hl0]
      show Except.ok (plainAuth h, readWay s [] []) = _
      have : readWay s [] [] = ⟨false, [], [[]]⟩ := by
        unfold readWay readSegs
        rw [if_neg (by simp [f1]), show splitOn 47 (trimSlash []) = [[]] by decide +kernel, segLoop, if_pos (by decide +kernel)]
        show (⟨false, [], segLoop s [tellSeg s [] true] []⟩ : Way) = _
        have : tellSeg s [] true = [] := by
          unfold tellSeg
          rw [if_neg (by simp [isDrive])]
          rfl
        rw [this]
        rfl
      rw [this]
    | cons p ps =>
      have hln : l ≠ [] := by
        intro h0
        rw [h0] at hw
        simp [writtenSegs] at hw
      have hps := written_slash l hl
      rw [hw] at hps
      show (match readAuth H (cutSlash ((big ++ 58 :: pt) ++ 47 :: (p ++ tellSegs ps))).1 s with | .error e => (Except.error e : Except Int (Auth × Way)) | .ok a => .ok (a, readWay s [] (cutSlash ((big ++ 58 :: pt) ++ 47 :: (p ++ tellSegs ps))).2)) = _
      rw [cutSlash_at _ _ hns, ra, if_neg hln]
      show Except.ok (plainAuth h, readWay s [] (47 :: (p ++ tellSegs ps))) = _
      rw [segs_way s p ps [] (hps p (by simp)) (fun q hq => hps q (by simp [hq])), ← hw, written_loop s f2 l [] hl]
      rfl
  rw [ef]
end
end Go.Moor
/-
  Plain mathematics on addresses that are written in many ways: a login, a port with noughts, what is refused, an opaque path.
-/
namespace Go.Moor
open Go

theorem decAcc_app : ∀ (l r : Bs) (n : Nat), decAcc n (l ++ r) = decAcc (decAcc n l) r
  | [], _, _ => rfl
  | c :: l, r, n => by
    show decAcc (n * 10 + (c.toNat - 48)) (l ++ r) = _
    rw [decAcc_app l r]
    rfl
theorem dec_digit : ∀ d : Fin 10, isDigit (UInt8.ofNat (48 + d.val)) = true ∧ (UInt8.ofNat (48 + d.val)).toNat - 48 = d.val := by decide +kernel
theorem dec_all (P : Nat) : (∀ c ∈ Lib.decDigits P, isDigit c = true) ∧ decAcc 0 (Lib.decDigits P) = P ∧ Lib.decDigits P ≠ [] := by
  induction P using Nat.strongRecOn with
  | _ P ih =>
    by_cases h : P < 10
    · have hd := dec_digit ⟨P, h⟩
      rw [Lib.decDigits_one h]
      refine ⟨?_, ?_, by simp⟩
      · intro c hc
        rw [List.mem_singleton.1 hc]
        exact hd.1
      · show 0 * 10 + ((UInt8.ofNat (48 + P)).toNat - 48) = P
        have := hd.2
        simp only at this
        omega
    · have hd := dec_digit ⟨P % 10, by omega⟩
      obtain ⟨i1, i2, i3⟩ := ih (P / 10) (by omega)
      rw [Lib.decDigits, dif_neg h]
      refine ⟨?_, ?_, by simp⟩
      · intro c hc
        rcases List.mem_append.1 hc with hc | hc
        · exact i1 c hc
        · rw [List.mem_singleton.1 hc]
          exact hd.1
      · rw [decAcc_app, i2]
        show P / 10 * 10 + ((UInt8.ofNat (48 + P % 10)).toNat - 48) = P
        have := hd.2
        simp only at this
        omega
theorem digit_ne (c : UInt8) (h : isDigit c = true) (k : Nat) (hk : k < 48 ∨ 57 < k) (hk2 : k < 256) : c ≠ k.toUInt8 := by
  intro e
  rw [e] at h
  have e2 : (k.toUInt8).toNat = k := by rw [show k.toUInt8.toNat = k % 256 from rfl]; omega
  unfold isDigit at h
  rw [e2] at h
  simp at h
  omega
theorem digit_calm (c : UInt8) (h : isDigit c = true) : calmB c ∧ c ≠ 47 ∧ c ≠ 64 := by
  refine ⟨⟨?_, digit_ne c h 35 (by omega) (by omega), digit_ne c h 63 (by omega) (by omega), digit_ne c h 92 (by omega) (by omega)⟩, digit_ne c h 47 (by omega) (by omega), digit_ne c h 64 (by omega) (by omega)⟩
  unfold isDigit at h
  simp at h
  omega

/-- The port that is told of a number. -/
def toldPort (s : Bs) (P : Nat) : Int := if (P : Int) = (ownPort s).1 then -1 else P
theorem port_good (s pt : Bs) (P : Nat) (hn : pt ≠ []) (hd : ∀ c ∈ pt, isDigit c = true) (hv : decAcc 0 pt = P) (hP : P ≤ 65535) : readPort pt s = some (toldPort s P) := by
  unfold readPort
  rw [if_neg hn, hv, if_pos (by
    rw [Bool.and_eq_true]
    exact ⟨List.all_eq_true.2 hd, decide_eq_true hP⟩)]
  unfold toldPort
  split <;> rfl
theorem port_great (s pt : Bs) (P : Nat) (hn : pt ≠ []) (hv : decAcc 0 pt = P) (hP : 65535 < P) : readPort pt s = none := by
  unfold readPort
  rw [if_neg hn, hv, if_neg (by
    rw [Bool.and_eq_true]
    intro h
    have := of_decide_eq_true h.2
    omega)]
theorem noughts_dec (P : Nat) : decAcc 0 ([48, 48, 48] ++ Lib.decDigits P) = P := by
  rw [decAcc_app]
  exact (dec_all P).2.1

section
variable (H : Bs → Bool → Option Bs)

/-- Of a special scheme, with an authority behind two slashes. -/
theorem read_named (s m : Bs) (q f : Option Bs) (hs : s ∈ five) (hm : ∀ c ∈ m, calmB c) (hq : ∀ x, q = some x → ∀ c ∈ x, c ≠ 35 ∧ 33 ≤ c.toNat) (hf : ∀ x, f = some x → ∀ c ∈ x, 33 ≤ c.toNat) (hh : m.head? ≠ some 47) :
    readAddr H (s ++ 58 :: ((47 :: 47 :: m) ++ (tellOpt 63 q ++ tellOpt 35 f))) none =
      match fromAuth H s m with
      | .error e => .error e
      | .ok (a, w) => .ok ⟨s, a, w, q.map (esc 3), f.map (esc 1)⟩ := by
  obtain ⟨f1, f2, f3, f4, f5, f6⟩ := five_ok s hs
  have hm2 : ∀ c ∈ 47 :: 47 :: m, calmB c := by
    intro c hc
    simp only [List.mem_cons] at hc
    rcases hc with rfl | rfl | hc
    · exact c47
    · exact c47
    · exact hm c hc
  unfold readAddr
  rw [strip_same _ (by
    intro c hx
    rcases List.mem_append.1 hx with hx | hx
    · exact (f6 c hx).2
    · rcases List.mem_cons.1 hx with rfl | hx
      · decide
      · rcases List.mem_append.1 hx with hx | hx
        · exact (hm2 c hx).1
        · rcases List.mem_append.1 hx with hx | hx
          · cases q with
            | none => simp [tellOpt] at hx
            | some x =>
              simp only [tellOpt, List.mem_cons] at hx
              rcases hx with rfl | hx
              · decide
              · exact (hq x rfl c hx).2
          · cases f with
            | none => simp [tellOpt] at hx
            | some x =>
              simp only [tellOpt, List.mem_cons] at hx
              rcases hx with rfl | hx
              · decide
              · exact hf x rfl c hx), cutMarks_named s _ q f f4 f5 (fun c hx => (f6 c hx).1) (fun c hx => ⟨(hm2 c hx).2.1, (hm2 c hx).2.2.1⟩) (fun x hx c hc => (hq x hx c hc).1)]
  unfold readCuts
  rw [if_pos f3]
  show readMarked H s (47 :: 47 :: m) q f none = _
  unfold readMarked
  rw [even_same s _ (fun c hx => (hm2 c hx).2.2.2)]
  unfold readMiddle
  rw [if_neg f2]
  have e3 : querySet s = 3 := by unfold querySet; rw [if_pos f1]
  show (match (match (if special s = true then fromAuth H s (trimSlashes (47 :: 47 :: m)) else _) with | .error e => (.error e : Except Int (Auth × Way × Option Bs)) | .ok (a, w) => .ok (a, w, Option.map (esc (querySet s)) q)) with | .error e => (.error e : Except Int Adr) | .ok (a, w, q2) => .ok ⟨s, a, w, q2, Option.map (esc 1) f⟩) = _
  rw [if_pos f1, trim_two _ hh, e3]
  cases fromAuth H s m with
  | error e => rfl
  | ok y => rfl

theorem cutLast_some (c : UInt8) (a b : Bs) (hb : ∀ x ∈ b, x ≠ c) : cutLast c (a ++ c :: b) = some (a, b) := by
  unfold cutLast
  have e : (a ++ c :: b).reverse = b.reverse ++ c :: a.reverse := by simp
  rw [e, cutB_some c _ b.reverse (fun x hx => hb x (by simpa using hx))]
  simp

def wLogin : Bs := [117, 59, 118, 58, 112, 64, 113]
def wUser : Bs := [117, 37, 51, 66, 118]
def wPass : Bs := [112, 37, 52, 48, 113]
theorem way_root (s : Bs) (hs : special s = true) : readWay s [] [] = ⟨false, [], [[]]⟩ := by
  unfold readWay readSegs
  rw [if_neg (by simp [hs]), show splitOn 47 (trimSlash []) = [[]] by decide +kernel, segLoop, if_pos (by decide +kernel)]
  show (⟨false, [], segLoop s [tellSeg s [] true] []⟩ : Way) = _
  have : tellSeg s [] true = [] := by
    unfold tellSeg
    rw [if_neg (by simp [isDrive])]
    rfl
  rw [this]
  rfl
theorem auth_login (s h pt : Bs) (n : Int) (hs : special s = true) (hh : HostOk H h) (hp : ∀ c ∈ pt, c ≠ 64) (hr : readPort pt s = some n) : readAuth H (wLogin ++ 64 :: (h ++ 58 :: pt)) s = .ok ⟨wUser, wPass, true, h, n⟩ := by
  have e1 : cutLogin (wLogin ++ 64 :: (h ++ 58 :: pt)) = (wLogin, h ++ 58 :: pt) := by
    unfold cutLogin
    rw [cutLast_some 64 wLogin _ (by
      intro c hc
      simp only [List.mem_append, List.mem_cons] at hc
      rcases hc with hc | rfl | hc
      · exact (hh.bytes c hc).2.2.1
      · decide
      · exact hp c hc)]
  have e2 : brackets (h ++ 58 :: pt) = 0 := by
    unfold brackets
    rw [if_neg]
    match h, hh.ne, hh.bytes with
    | c :: r, _, hb =>
      have := (hb c (by simp)).2.2.2.2
      simpa using this
  have e3 : cutPort (h ++ 58 :: pt) = (h, pt) := by
    unfold cutPort
    rw [e2]
    show (match cutB 58 (h ++ 58 :: pt) with | some (a, b) => ([] ++ a, b) | none => (h ++ 58 :: pt, [])) = _
    rw [cutB_some 58 pt h (fun c hc => (hh.bytes c hc).2.2.2.1)]
    rfl
  have e4 : tellHost H h (wLogin ++ 64 :: (h ++ 58 :: pt)) s = some h := by
    unfold tellHost
    rw [if_neg (fun x => hh.ne x.1), hs, hh.told]
  have e5 : cutOpt 58 wLogin = ([117, 59, 118], some [112, 64, 113]) := by decide +kernel
  unfold readAuth
  rw [e1]
  show (match tellHost H (cutPort (h ++ 58 :: pt)).1 (wLogin ++ 64 :: (h ++ 58 :: pt)) s with | none => (Except.error 4 : Except Int Auth) | some x => match readPort (cutPort (h ++ 58 :: pt)).2 s with | none => (Except.error 5 : Except Int Auth) | some p => (.ok ⟨esc 5 (cutOpt 58 wLogin).1, esc 5 ((cutOpt 58 wLogin).2.getD []), true, x, p⟩ : Except Int Auth)) = _
  rw [e3, e4, e5]
  show (match readPort pt s with | none => (Except.error 5 : Except Int Auth) | some p => (.ok ⟨esc 5 [117, 59, 118], esc 5 [112, 64, 113], true, h, p⟩ : Except Int Auth)) = _
  rw [hr, show esc 5 [117, 59, 118] = wUser by decide +kernel, show esc 5 [112, 64, 113] = wPass by decide +kernel]
theorem from_bare (s t : Bs) (hs : special s = true) (ht : ∀ c ∈ t, c ≠ 47) : fromAuth H s t = match readAuth H t s with | .error e => .error e | .ok a => .ok (a, ⟨false, [], [[]]⟩) := by
  unfold fromAuth
  show (match readAuth H (cutSlash t).1 s with | .error e => (Except.error e : Except Int (Auth × Way)) | .ok a => .ok (a, readWay s [] (cutSlash t).2)) = _
  rw [cutSlash_none t ht]
  cases readAuth H t s with
  | error e => rfl
  | ok a =>
    show Except.ok (a, readWay s [] []) = _
    rw [way_root s hs]
theorem host_only (h pt : Bs) (hh : HostOk H h) (hpt : ∀ c ∈ pt, calmB c ∧ c ≠ 47 ∧ c ≠ 64) : ∀ c ∈ h ++ 58 :: pt, calmB c ∧ c ≠ 47 := by
  intro c hc
  simp only [List.mem_append, List.mem_cons] at hc
  rcases hc with hc | rfl | hc
  · exact ⟨(hh.bytes c hc).1, (hh.bytes c hc).2.1⟩
  · exact ⟨⟨by decide, by decide, by decide, by decide⟩, by decide⟩
  · exact ⟨(hpt c hc).1, (hpt c hc).2.1⟩

def qTxt : Bs := [97, 39, 98, 34, 99]
def fTxt : Bs := [100, 96, 101]
theorem written_b (s h : Bs) (P : Nat) (hs : s ∈ five) (hh : HostOk H h) (hP : P ≤ 65535) :
    readAddr H (s ++ 58 :: ((47 :: 47 :: (wLogin ++ 64 :: (h ++ 58 :: ([48, 48, 48] ++ Lib.decDigits P)))) ++ (tellOpt 63 (some qTxt) ++ tellOpt 35 (some fTxt)))) none
      = .ok ⟨s, ⟨wUser, wPass, true, h, toldPort s P⟩, ⟨false, [], [[]]⟩, some [97, 37, 50, 55, 98, 37, 50, 50, 99], some [100, 37, 54, 48, 101]⟩ := by
  obtain ⟨f1, f2, f3, f4, f5, f6⟩ := five_ok s hs
  obtain ⟨d1, d2, d3⟩ := dec_all P
  have hd : ∀ c ∈ [48, 48, 48] ++ Lib.decDigits P, isDigit c = true := by
    intro c hc
    rcases List.mem_append.1 hc with hc | hc
    · simp at hc; subst hc; decide
    · exact d1 c hc
  have hb := host_only H h ([48, 48, 48] ++ Lib.decDigits P) hh (fun c hc => digit_calm c (hd c hc))
  have hw : ∀ c ∈ wLogin ++ 64 :: (h ++ 58 :: ([48, 48, 48] ++ Lib.decDigits P)), calmB c ∧ c ≠ 47 := by
    intro c hc
    rcases List.mem_append.1 hc with hc | hc
    · have hl : ∀ c ∈ wLogin, calmB c ∧ c ≠ 47 := by
        unfold calmB
        decide +kernel
      exact hl c hc
    · rcases List.mem_cons.1 hc with rfl | hc
      · exact ⟨⟨by decide, by decide, by decide, by decide⟩, by decide⟩
      · exact hb c hc
  rw [read_named H s _ (some qTxt) (some fTxt) hs (fun c hc => (hw c hc).1) (by intro x hx; cases hx; decide +kernel) (by intro x hx; cases hx; decide +kernel) (by simp [wLogin])]
  rw [from_bare H s _ f1 (fun c hc => (hw c hc).2), auth_login H s h _ (toldPort s P) f1 hh (fun c hc => (digit_calm c (hd c hc)).2.2) (port_good s _ P (by simp) hd (noughts_dec P) hP)]
  show Except.ok (⟨s, _, _, some (esc 3 qTxt), some (esc 1 fTxt)⟩ : Adr) = _
  rw [show esc 3 qTxt = [97, 37, 50, 55, 98, 37, 50, 50, 99] by decide +kernel, show esc 1 fTxt = [100, 37, 54, 48, 101] by decide +kernel]
theorem auth_great (s h pt : Bs) (hs : special s = true) (hh : HostOk H h) (hp : ∀ c ∈ pt, c ≠ 64) (hr : readPort pt s = none) : readAuth H (h ++ 58 :: pt) s = .error 5 := by
  have e1 : cutLogin (h ++ 58 :: pt) = ([], h ++ 58 :: pt) := by
    unfold cutLogin cutLast
    rw [cutB_none 64 _ (by
      intro c hc
      simp only [List.mem_reverse, List.mem_append, List.mem_cons] at hc
      rcases hc with hc | rfl | hc
      · exact (hh.bytes c hc).2.2.1
      · decide
      · exact hp c hc)]
    rfl
  have e2 : brackets (h ++ 58 :: pt) = 0 := by
    unfold brackets
    rw [if_neg]
    match h, hh.ne, hh.bytes with
    | c :: r, _, hb =>
      have := (hb c (by simp)).2.2.2.2
      simpa using this
  have e3 : cutPort (h ++ 58 :: pt) = (h, pt) := by
    unfold cutPort
    rw [e2]
    show (match cutB 58 (h ++ 58 :: pt) with | some (a, b) => ([] ++ a, b) | none => (h ++ 58 :: pt, [])) = _
    rw [cutB_some 58 pt h (fun c hc => (hh.bytes c hc).2.2.2.1)]
    rfl
  have e4 : tellHost H h (h ++ 58 :: pt) s = some h := by
    unfold tellHost
    rw [if_neg (fun x => hh.ne x.1), hs, hh.told]
  unfold readAuth
  rw [e1]
  show (match tellHost H (cutPort (h ++ 58 :: pt)).1 (h ++ 58 :: pt) s with | none => (Except.error 4 : Except Int Auth) | some x => match readPort (cutPort (h ++ 58 :: pt)).2 s with | none => (Except.error 5 : Except Int Auth) | some p => _) = _
  rw [e3, e4]
  show (match readPort pt s with | none => (Except.error 5 : Except Int Auth) | some p => _) = _
  rw [hr]
theorem written_c (s h : Bs) (P : Nat) (hs : s ∈ five) (hh : HostOk H h) (hP : 65535 < P) :
    readAddr H (s ++ 58 :: 47 :: 47 :: (h ++ 58 :: Lib.decDigits P)) none = .error 5 := by
  obtain ⟨f1, f2, f3, f4, f5, f6⟩ := five_ok s hs
  obtain ⟨d1, d2, d3⟩ := dec_all P
  have hw := host_only H h (Lib.decDigits P) hh (fun c hc => digit_calm c (d1 c hc))
  have := read_named H s (h ++ 58 :: Lib.decDigits P) none none hs (fun c hc => (hw c hc).1) (fun _ h => by cases h) (fun _ h => by cases h) (host_head H h _ hh)
  rw [show (47 :: 47 :: (h ++ 58 :: Lib.decDigits P)) ++ (tellOpt 63 none ++ tellOpt 35 none) = 47 :: 47 :: (h ++ 58 :: Lib.decDigits P) by simp [tellOpt]] at this
  rw [this, from_bare H s _ f1 (fun c hc => (hw c hc).2), auth_great H s h _ f1 hh (fun c hc => (digit_calm c (d1 c hc)).2.2) (port_great s _ P d3 d2 hP)]
theorem written_d (s : Bs) (hs : s ∈ five) (hH : H [] true = none) : readAddr H (s ++ [58, 47, 47]) none = .error 4 := by
  obtain ⟨f1, f2, f3, f4, f5, f6⟩ := five_ok s hs
  have := read_named H s [] none none hs (by simp) (fun _ h => by cases h) (fun _ h => by cases h) (by simp)
  rw [show s ++ 58 :: ([47, 47] ++ (tellOpt 63 none ++ tellOpt 35 none)) = s ++ [58, 47, 47] by simp [tellOpt]] at this
  rw [this, from_bare H s _ f1 (by simp)]
  have e : readAuth H [] s = .error 4 := by
    unfold readAuth
    rw [show cutLogin [] = ([], []) by decide +kernel]
    show (match tellHost H (cutPort []).1 [] s with | none => (Except.error 4 : Except Int Auth) | some x => _) = _
    rw [show cutPort [] = ([], []) by decide +kernel]
    have : tellHost H [] [] s = none := by
      unfold tellHost
      rw [if_neg (by simp), f1, hH]
    show (match tellHost H [] [] s with | none => (Except.error 4 : Except Int Auth) | some x => _) = _
    rw [this]
  rw [e]
theorem written_e (s : Bs) (hs : s ∈ five) : readAddr H (s ++ [58, 47, 47, 117, 64]) none = .error 4 := by
  obtain ⟨f1, f2, f3, f4, f5, f6⟩ := five_ok s hs
  have := read_named H s [117, 64] none none hs (by unfold calmB; decide) (fun _ h => by cases h) (fun _ h => by cases h) (by decide)
  rw [show s ++ 58 :: ((47 :: 47 :: [117, 64]) ++ (tellOpt 63 none ++ tellOpt 35 none)) = s ++ [58, 47, 47, 117, 64] by simp [tellOpt]] at this
  rw [this, from_bare H s _ f1 (by decide)]
  have e : readAuth H [117, 64] s = .error 4 := by
    unfold readAuth
    rw [show cutLogin [117, 64] = ([117], []) by decide +kernel]
    show (match tellHost H (cutPort []).1 [117, 64] s with | none => (Except.error 4 : Except Int Auth) | some x => match readPort (cutPort []).2 s with | none => (Except.error 5 : Except Int Auth) | some p => (.ok ⟨esc 5 (cutOpt 58 [117]).1, esc 5 ((cutOpt 58 [117]).2.getD []), true, x, p⟩ : Except Int Auth)) = _
    rw [show cutPort [] = ([], []) by decide +kernel]
    have : tellHost H [] [117, 64] s = none := by
      unfold tellHost
      rw [if_pos ⟨rfl, by simp⟩]
    rw [show tellHost H (([], []) : Bs × Bs).1 [117, 64] s = none from this]
  rw [e]

/-- An opaque path. -/
theorem esc_app (s : Int) (a b : Bs) : esc s (a ++ b) = esc s a ++ esc s b := by
  unfold esc
  rw [List.flatMap_append]
theorem ctl_out : ∀ k : Fin 256, 33 ≤ k.val → k.val ≤ 126 → holdsB 0 (k.val : Int) = false := by decide +kernel
theorem written_f (h : Bs) (hne : h ≠ []) (hh : ∀ c ∈ h, calmB c ∧ c.toNat ≤ 126 ∧ c ≠ 47) :
    readAddr H (120 :: 58 :: (h ++ [32, 121, 127])) none = .ok ⟨[120], noAuth, ⟨true, h ++ [37, 50, 48, 121, 37, 55, 70], []⟩, none, none⟩ := by
  have hm : ∀ c ∈ h ++ [32, 121, 127], c ≠ 35 ∧ c ≠ 63 ∧ c ≠ 92 := by
    intro c hc
    rcases List.mem_append.1 hc with hc | hc
    · exact ⟨(hh c hc).1.2.1, (hh c hc).1.2.2.1, (hh c hc).1.2.2.2⟩
    · simp at hc; rcases hc with rfl | rfl | rfl <;> decide
  have est : stripB (120 :: 58 :: (h ++ [32, 121, 127])) = 120 :: 58 :: (h ++ [32, 121, 127]) := by
    unfold stripB
    have e := trimB_core [] (120 :: 58 :: (h ++ [32, 121, 127])) [] (by simp) (by simp) (by intro x hx; simp at hx; subst hx; decide) (by
      intro x hx
      have : (120 :: 58 :: (h ++ [32, 121, 127])).getLast? = some 127 := by
        rw [show 120 :: 58 :: (h ++ [32, 121, 127]) = (120 :: 58 :: (h ++ [32, 121])) ++ [127] by simp, List.getLast?_concat]
      rw [this] at hx
      cases hx
      decide)
    simp only [List.nil_append, List.append_nil] at e
    rw [e, show 120 :: 58 :: (h ++ [32, 121, 127]) = [120, 58] ++ (h ++ [32, 121, 127]) from rfl, List.filter_append, List.filter_append, filter_core h (fun c hc => (hh c hc).1.1)]
    rfl
  unfold readAddr
  rw [est]
  have := cutMarks_named [120] (h ++ [32, 121, 127]) none none (by decide +kernel) (by decide +kernel) (by decide) (fun c hc => ⟨(hm c hc).1, (hm c hc).2.1⟩) (fun _ h => by cases h)
  rw [show [120] ++ 58 :: ((h ++ [32, 121, 127]) ++ (tellOpt 63 none ++ tellOpt 35 none)) = 120 :: 58 :: (h ++ [32, 121, 127]) by simp [tellOpt]] at this
  rw [this]
  unfold readCuts
  rw [if_pos (show ([120] : Bs) ≠ [] by decide)]
  show readMarked H [120] (h ++ [32, 121, 127]) none none none = _
  unfold readMarked
  rw [even_same _ _ (fun c hc => (hm c hc).2.2)]
  unfold readMiddle
  rw [if_neg (by decide)]
  show (match (match (if special [120] = true then _ else readOther H [120] (h ++ [32, 121, 127])) with | .error e => (.error e : Except Int (Auth × Way × Option Bs)) | .ok (a, w) => .ok (a, w, none)) with | .error e => (.error e : Except Int Adr) | .ok (a, w, q2) => .ok ⟨[120], a, w, q2, none⟩) = _
  rw [show special [120] = false by decide +kernel, if_neg (by decide)]
  have hhd : (h ++ [32, 121, 127]).head? ≠ some 47 := by
    match h, hne, hh with
    | c :: r, _, hb =>
      have := (hb c (by simp)).2.2
      simpa using this
  have eo : readOther H [120] (h ++ [32, 121, 127]) = .ok (noAuth, ⟨true, escOpaque (h ++ [32, 121, 127]), []⟩) := by
    unfold readOther
    rw [if_neg (by
      match h, hne, hh with
      | c :: r, _, hb =>
        have := (hb c (by simp)).2.2
        simp [List.isPrefixOf]
        intro h
        exact absurd h.symm this), if_neg hhd]
  have ee : escOpaque (h ++ [32, 121, 127]) = h ++ [37, 50, 48, 121, 37, 55, 70] := by
    unfold escOpaque
    rw [esc_app, esc_same 0 h (fun c hc => ctl_out ⟨c.toNat, c.toNat_lt⟩ (hh c hc).1.1 (hh c hc).2.1), List.flatMap_append]
    have e1 : (h.flatMap fun c => if c = 32 then [37, 50, 48] else [c]) = h := by
      have : ∀ l : Bs, (∀ c ∈ l, c ≠ 32) → (l.flatMap fun c => if c = 32 then [37, 50, 48] else [c]) = l := by
        intro l hl
        induction l with
        | nil => rfl
        | cons c l ih => rw [List.flatMap_cons, if_neg (hl c (by simp)), ih (fun x hx => hl x (by simp [hx]))]; rfl
      refine this h (fun c hc e => ?_)
      have := (hh c hc).1.1
      rw [e] at this
      exact absurd this (by decide)
    rw [e1, show ((esc 0 [32, 121, 127]).flatMap fun c => if c = 32 then [37, 50, 48] else [c]) = [37, 50, 48, 121, 37, 55, 70] by decide +kernel]
  rw [eo, ee]
end
end Go.Moor
