/-
  Plain mathematics on addresses that are written in many ways: capitals, blanks and line ends, backslashes, slashes too many or none, its own port, dots that go nowhere, what must be escaped.
-/
import Derived.Test.YtkcnageeamappaaGreatDoorJABeside2
namespace Go.Moor
open Go

-- blanks and line ends
theorem drop_blank (p : UInt8 → Bool) (a b : Bs) (ha : ∀ c ∈ a, p c = true) : (a ++ b).dropWhile p = b.dropWhile p := by
  rw [List.dropWhile_append_of_pos ha]
theorem drop_core (p : UInt8 → Bool) (a b : Bs) (ha : ∀ c ∈ a, p c = false) (hn : a ≠ []) : (a ++ b).dropWhile p = a ++ b := by
  cases a with
  | nil => exact absurd rfl hn
  | cons c a => rw [List.cons_append, List.dropWhile_cons_of_neg (by simp [ha c (by simp)])]
theorem blank_core (c : UInt8) (h : 33 ≤ c.toNat) : blankB c = false := by unfold blankB; simp; omega
theorem filter_core (l : Bs) (h : ∀ c ∈ l, 33 ≤ c.toNat) : l.filter (fun c => !breakB c) = l := by
  rw [List.filter_eq_self]
  intro c hc
  have := h c hc
  have e : ∀ k : Nat, k < 33 → c ≠ k.toUInt8 := by
    intro k hk e
    rw [e] at this
    have : (k.toUInt8).toNat = k := by rw [show k.toUInt8.toNat = k % 256 from rfl]; omega
    omega
  have e9 : c ≠ 9 := e 9 (by omega)
  have e10 : c ≠ 10 := e 10 (by omega)
  have e13 : c ≠ 13 := e 13 (by omega)
  simp [breakB, e9, e10, e13]
theorem trimB_core (a b c : Bs) (ha : ∀ x ∈ a, blankB x = true) (hb : ∀ x ∈ c, blankB x = true) (hf : ∀ x, b.head? = some x → blankB x = false) (hl : ∀ x, b.getLast? = some x → blankB x = false) : trimB blankB (a ++ (b ++ c)) = b := by
  unfold trimB
  rw [drop_blank _ a _ ha]
  cases hb0 : b with
  | nil =>
    have e : c.dropWhile blankB = [] := by
      have := List.dropWhile_append_of_pos (p := blankB) (l₁ := c) (l₂ := []) hb
      simpa using this
    show ((([] ++ c).dropWhile blankB).reverse.dropWhile blankB).reverse = []
    rw [List.nil_append, e]
    rfl
  | cons x r =>
    rw [hb0] at hf hl
    have h1 : ((x :: r) ++ c).dropWhile blankB = (x :: r) ++ c := by
      rw [List.cons_append, List.dropWhile_cons_of_neg (by simp [hf x rfl])]
    rw [h1, List.reverse_append, drop_blank _ c.reverse _ (fun y hy => hb y (by simpa using hy))]
    have h2 : (x :: r).reverse.dropWhile blankB = (x :: r).reverse := by
      cases hr : (x :: r).reverse with
      | nil => rfl
      | cons y ys =>
        have : (x :: r).getLast? = some y := by
          rw [← List.head?_reverse, hr]
          rfl
        rw [List.dropWhile_cons_of_neg (by simp [hl y this])]
    rw [h2, List.reverse_reverse]
/-- Two blanks ahead, a line's end somewhere behind them, a blank at the end. -/
theorem strip_written (a b : Bs) (ha : ∀ c ∈ a, 33 ≤ c.toNat) (hb : ∀ c ∈ b, 33 ≤ c.toNat) : stripB ([32, 32] ++ (a ++ ([10, 9, 13] ++ (b ++ [32])))) = a ++ b := by
  have hab : ∀ c ∈ a ++ b, 33 ≤ c.toNat := by
    intro c hc
    rcases List.mem_append.1 hc with hc | hc
    · exact ha c hc
    · exact hb c hc
  have hd : ∀ (l : Bs), (∀ c ∈ l, 33 ≤ c.toNat) → ∀ x, l.head? = some x → blankB x = false := fun l h x hx => blank_core x (h x (List.mem_of_head? hx))
  have hlt : ∀ (l : Bs), (∀ c ∈ l, 33 ≤ c.toNat) → ∀ x, l.getLast? = some x → blankB x = false := fun l h x hx => blank_core x (h x (List.mem_of_getLast? hx))
  unfold stripB
  by_cases h1 : a = []
  · have e : [32, 32] ++ (a ++ ([10, 9, 13] ++ (b ++ [32]))) = [32, 32, 10, 9, 13] ++ (b ++ [32]) := by rw [h1]; simp
    rw [e, trimB_core _ b [32] (by decide) (by decide) (hd b hb) (hlt b hb), filter_core b hb, h1]
    rfl
  · by_cases h2 : b = []
    · have e : [32, 32] ++ (a ++ ([10, 9, 13] ++ (b ++ [32]))) = [32, 32] ++ (a ++ [10, 9, 13, 32]) := by rw [h2]; simp
      rw [e, trimB_core _ a _ (by decide) (by decide) (hd a ha) (hlt a ha), filter_core a ha, h2, List.append_nil]
    · have e : [32, 32] ++ (a ++ ([10, 9, 13] ++ (b ++ [32]))) = [32, 32] ++ ((a ++ ([10, 9, 13] ++ b)) ++ [32]) := by simp
      rw [e, trimB_core _ (a ++ ([10, 9, 13] ++ b)) [32] (by decide) (by decide) (by
        intro x hx
        cases a with
        | nil => exact absurd rfl h1
        | cons y r => exact hd (y :: r) ha x (by simpa using hx)) (by
        intro x hx
        refine hlt b hb x ?_
        rw [List.getLast?_append, List.getLast?_append] at hx
        cases hbl : b.getLast? with
        | none => rw [List.getLast?_eq_none_iff] at hbl; exact absurd hbl h2
        | some y => rw [hbl] at hx; simpa using hx), List.filter_append, List.filter_append, filter_core a ha, filter_core b hb]
      simp [breakB]

-- slashes, a host, its port, a path
def slashTxt : Nat → Bs
  | 0 => []
  | 1 => [47]
  | 2 => [47, 47]
  | 3 => [92]
  | 4 => [92, 47]
  | _ => [47, 47, 47, 47, 92]
def sepTxt : Nat → Bs
  | 0 => [47]
  | 1 => [92]
  | 2 => [47, 46, 47]
  | _ => [47, 120, 47, 46, 46, 47]
def sepSegs : Nat → List Bs
  | 0 => []
  | 1 => []
  | 2 => [[46]]
  | _ => [[120], [46, 46]]
/-- The path as it is written: each word behind its separator. -/
def writtenTxt (l : List (Nat × Bs)) : Bs := l.flatMap fun y => sepTxt y.1 ++ y.2
def writtenSegs (l : List (Nat × Bs)) : List Bs := l.flatMap fun y => sepSegs y.1 ++ [y.2]
theorem slash_even (k : Nat) : ∀ c ∈ (slashTxt k).map evenB, c = 47 := by
  match k with
  | 0 => decide
  | 1 => decide
  | 2 => decide
  | 3 => decide
  | 4 => decide
  | k + 5 => show ∀ c ∈ ([47, 47, 47, 47, 92] : Bs).map evenB, c = 47; decide
theorem sep_even (k : Nat) (p : Bs) (hp : ∀ c ∈ p, c ≠ 92) : (sepTxt k ++ p).map evenB = tellSegs (sepSegs k ++ [p]) := by
  rw [List.map_append, even_id p hp, tellSegs_app]
  match k with
  | 0 => simp [sepTxt, sepSegs, tellSegs, evenB]
  | 1 => simp [sepTxt, sepSegs, tellSegs, evenB]
  | 2 => simp [sepTxt, sepSegs, tellSegs, evenB]
  | k + 3 => simp [sepTxt, sepSegs, tellSegs, evenB]
theorem written_even (l : List (Nat × Bs)) (h : ∀ y ∈ l, wordB y.2) : (writtenTxt l).map evenB = tellSegs (writtenSegs l) := by
  induction l with
  | nil => rfl
  | cons y l ih =>
    have e1 : writtenTxt (y :: l) = (sepTxt y.1 ++ y.2) ++ writtenTxt l := rfl
    have e2 : writtenSegs (y :: l) = (sepSegs y.1 ++ [y.2]) ++ writtenSegs l := rfl
    rw [e1, e2, List.map_append, tellSegs_app, ih (fun z hz => h z (by simp [hz])), sep_even _ _ (fun c hc => (word_calm _ (h y (by simp)) c hc).2.2.2)]
theorem sep_loop (s : Bs) (hs : s ≠ sFile) (k : Nat) (p : Bs) (hp : wordB p) (segs r : List Bs) : segLoop s segs ((sepSegs k ++ [p]) ++ r) = segLoop s (segs ++ [p]) r := by
  have hx : wordB [120] := ⟨by decide, by unfold smallB; decide +kernel⟩
  have one : ∀ segs : List Bs, segLoop s segs (p :: r) = segLoop s (segs ++ [p]) r := fun segs => segLoop_stays s r [p] segs (by intro q hq; simp at hq; subst hq; exact stays_word s q hp)
  match k with
  | 0 => exact one segs
  | 1 => exact one segs
  | 2 =>
    show segLoop s segs ([46] :: p :: r) = _
    rw [segLoop_here s _ (by decide +kernel) _ (by simp), one]
  | k + 3 =>
    show segLoop s segs ([[120]] ++ ([46, 46] :: p :: r)) = _
    rw [segLoop_stays s _ [[120]] segs (by intro q hq; simp at hq; subst hq; exact stays_word s _ hx), segLoop_up s _ (by decide +kernel) _ (by simp), withoutLast_plain s hs, List.dropLast_concat, one]
theorem written_loop (s : Bs) (hs : s ≠ sFile) : ∀ (l : List (Nat × Bs)) (segs : List Bs), (∀ y ∈ l, wordB y.2) → segLoop s segs (writtenSegs l) = segs ++ l.map (·.2)
  | [], segs, _ => by
    show segLoop s segs [] = segs ++ []
    rw [List.append_nil]
    rfl
  | y :: l, segs, h => by
    have e2 : writtenSegs (y :: l) = (sepSegs y.1 ++ [y.2]) ++ writtenSegs l := rfl
    rw [e2, sep_loop s hs _ _ (h y (by simp)), written_loop s hs l _ (fun z hz => h z (by simp [hz]))]
    simp
theorem written_slash (l : List (Nat × Bs)) (h : ∀ y ∈ l, wordB y.2) : ∀ p ∈ writtenSegs l, ∀ c ∈ p, c ≠ 47 := by
  intro p hp
  obtain ⟨y, hy, hm⟩ := List.mem_flatMap.1 hp
  rcases List.mem_append.1 hm with hm | hm
  · revert hm
    match y.1 with
    | 0 => intro hm; simp [sepSegs] at hm
    | 1 => intro hm; simp [sepSegs] at hm
    | 2 => intro hm; simp [sepSegs] at hm; subst hm; decide
    | k + 3 => intro hm; simp [sepSegs] at hm; rcases hm with rfl | rfl <;> decide
  · simp at hm
    subst hm
    exact word_slash _ (h y hy)
theorem trimSlashes_lead (a b : Bs) (ha : ∀ c ∈ a, c = 47) (hb : b.head? ≠ some 47) : trimSlashes (a ++ b) = b := by
  unfold trimSlashes
  rw [List.dropWhile_append_of_pos (by simpa using ha)]
  exact noSlash_trim b hb

section
variable (H : Bs → Bool → Option Bs)

/-- A login, a host, a port. -/
theorem readAuth_port (s big h pt : Bs) (n : Int) (hs : special s = true) (hne : big ≠ []) (hb : ∀ c ∈ big, c ≠ 64 ∧ c ≠ 58 ∧ c ≠ 91) (hp : ∀ c ∈ pt, c ≠ 64) (hh : H big true = some h) (hr : readPort pt s = some n) :
    readAuth H (big ++ 58 :: pt) s = .ok ⟨[], [], true, h, n⟩ := by
  have e1 : cutLogin (big ++ 58 :: pt) = ([], big ++ 58 :: pt) := by
    unfold cutLogin cutLast
    rw [cutB_none 64 _ (by
      intro c hc
      simp only [List.mem_reverse, List.mem_append, List.mem_cons] at hc
      rcases hc with hc | rfl | hc
      · exact (hb c hc).1
      · decide
      · exact hp c hc)]
    rfl
  have e2 : brackets (big ++ 58 :: pt) = 0 := by
    unfold brackets
    rw [if_neg]
    match big, hne, hb with
    | c :: r, _, hb =>
      have := (hb c (by simp)).2.2
      simpa using this
  have e3 : cutPort (big ++ 58 :: pt) = (big, pt) := by
    unfold cutPort
    rw [e2]
    show (match cutB 58 (big ++ 58 :: pt) with | some (a, b) => ([] ++ a, b) | none => (big ++ 58 :: pt, [])) = _
    rw [cutB_some 58 pt big (fun c hc => (hb c hc).2.1)]
    rfl
  have e4 : tellHost H big (big ++ 58 :: pt) s = some h := by
    unfold tellHost
    rw [if_neg (fun x => hne x.1), hs, hh]
  unfold readAuth
  rw [e1]
  show (match tellHost H (cutPort (big ++ 58 :: pt)).1 (big ++ 58 :: pt) s with | none => (Except.error 4 : Except Int Auth) | some x => match readPort (cutPort (big ++ 58 :: pt)).2 s with | none => (Except.error 5 : Except Int Auth) | some p => (.ok ⟨esc 5 (cutOpt 58 []).1, esc 5 ((cutOpt 58 []).2.getD []), true, x, p⟩ : Except Int Auth)) = _
  rw [e3, e4]
  show (match readPort pt s with | none => (Except.error 5 : Except Int Auth) | some p => _) = _
  rw [hr]
  rfl

/-- The first text: its path is told plain, one slash if there is none. -/
theorem written_a (s big h pt : Bs) (k : Nat) (l : List (Nat × Bs)) (hs : s ∈ five) (hne : big ≠ []) (hb : ∀ c ∈ big, calmB c ∧ c ≠ 47 ∧ c ≠ 64 ∧ c ≠ 58 ∧ c ≠ 91) (hpt : ∀ c ∈ pt, calmB c ∧ c ≠ 47 ∧ c ≠ 64) (hh : H big true = some h) (hr : readPort pt s = some (-1)) (hl : ∀ y ∈ l, wordB y.2)
    (a b : Bs) (hab : a ++ b = s ++ 58 :: (slashTxt k ++ (big ++ 58 :: (pt ++ writtenTxt l)))) :
    readAddr H ([32, 32] ++ (a ++ ([10, 9, 13] ++ (b ++ [32])))) none = .ok ⟨s, plainAuth h, ⟨false, [], if l = [] then [[]] else l.map (·.2)⟩, none, none⟩ := by
  obtain ⟨f1, f2, f3, f4, f5, f6⟩ := five_ok s hs
  have hsl : ∀ c ∈ slashTxt k, 33 ≤ c.toNat ∧ c ≠ 35 ∧ c ≠ 63 := by
    match k with
    | 0 => decide
    | 1 => decide
    | 2 => decide
    | 3 => decide
    | 4 => decide
    | k + 5 => show ∀ c ∈ ([47, 47, 47, 47, 92] : Bs), 33 ≤ c.toNat ∧ c ≠ 35 ∧ c ≠ 63; decide
  have hsep : ∀ j : Nat, ∀ c ∈ sepTxt j, 33 ≤ c.toNat ∧ c ≠ 35 ∧ c ≠ 63 := by
    intro j
    match j with
    | 0 => decide
    | 1 => decide
    | 2 => decide
    | j + 3 => show ∀ c ∈ ([47, 120, 47, 46, 46, 47] : Bs), 33 ≤ c.toNat ∧ c ≠ 35 ∧ c ≠ 63; decide
  have hm : ∀ c ∈ slashTxt k ++ (big ++ 58 :: (pt ++ writtenTxt l)), 33 ≤ c.toNat ∧ c ≠ 35 ∧ c ≠ 63 := by
    intro c hc
    simp only [List.mem_append, List.mem_cons] at hc
    rcases hc with hc | hc | rfl | hc | hc
    · exact hsl c hc
    · exact ⟨(hb c hc).1.1, (hb c hc).1.2.1, (hb c hc).1.2.2.1⟩
    · decide
    · exact ⟨(hpt c hc).1.1, (hpt c hc).1.2.1, (hpt c hc).1.2.2.1⟩
    · obtain ⟨y, hy, hx⟩ := List.mem_flatMap.1 hc
      rcases List.mem_append.1 hx with hx | hx
      · exact hsep y.1 c hx
      · exact ⟨(word_calm _ (hl y hy) c hx).1, (word_calm _ (hl y hy) c hx).2.1, (word_calm _ (hl y hy) c hx).2.2.1⟩
  have h33 : ∀ c ∈ a ++ b, 33 ≤ c.toNat := by
    rw [hab]
    intro c hx
    rcases List.mem_append.1 hx with hx | hx
    · exact (f6 c hx).2
    · rcases List.mem_cons.1 hx with rfl | hx
      · decide
      · exact (hm c hx).1
  unfold readAddr
  rw [strip_written a b (fun c hc => h33 c (by simp [hc])) (fun c hc => h33 c (by simp [hc])), hab]
  have := cutMarks_named s (slashTxt k ++ (big ++ 58 :: (pt ++ writtenTxt l))) none none f4 f5 (fun c hx => (f6 c hx).1) (fun c hx => (hm c hx).2) (fun _ h => by cases h)
  rw [show (slashTxt k ++ (big ++ 58 :: (pt ++ writtenTxt l))) ++ (tellOpt 63 none ++ tellOpt 35 none) = slashTxt k ++ (big ++ 58 :: (pt ++ writtenTxt l)) by simp [tellOpt]] at this
  rw [this]
  unfold readCuts
  rw [if_pos f3]
  show readMarked H s (slashTxt k ++ (big ++ 58 :: (pt ++ writtenTxt l))) none none none = _
  unfold readMarked
  have em : evenSlashes s (slashTxt k ++ (big ++ 58 :: (pt ++ writtenTxt l))) = (slashTxt k).map evenB ++ ((big ++ 58 :: pt) ++ tellSegs (writtenSegs l)) := by
    rw [even_map s _ f1, List.map_append, List.map_append, List.map_cons, List.map_append, even_id big (fun c hc => (hb c hc).1.2.2.2), even_id pt (fun c hc => (hpt c hc).1.2.2.2), written_even l hl]
    simp [evenB]
  rw [em]
  unfold readMiddle
  rw [if_neg f2]
  show (match (match (if special s = true then fromAuth H s (trimSlashes ((slashTxt k).map evenB ++ ((big ++ 58 :: pt) ++ tellSegs (writtenSegs l)))) else _) with | .error e => (.error e : Except Int (Auth × Way × Option Bs)) | .ok (a, w) => .ok (a, w, none)) with | .error e => (.error e : Except Int Adr) | .ok (a, w, q2) => .ok ⟨s, a, w, q2, none⟩) = _
  rw [if_pos f1, trimSlashes_lead _ _ (slash_even k) (by
    match big, hne, hb with
    | c :: r, _, hb =>
      have := (hb c (by simp)).2.1
      simpa using this)]
  have hns : ∀ c ∈ big ++ 58 :: pt, c ≠ 47 := by
    intro c hc
    simp only [List.mem_append, List.mem_cons] at hc
    rcases hc with hc | rfl | hc
    · exact (hb c hc).2.1
    · decide
    · exact (hpt c hc).2.1
  have ra := readAuth_port H s big h pt (-1) f1 hne (fun c hc => (hb c hc).2.2) (fun c hc => (hpt c hc).2.2) hh hr
  have ef : fromAuth H s ((big ++ 58 :: pt) ++ tellSegs (writtenSegs l)) = .ok (plainAuth h, ⟨false, [], if l = [] then [[]] else l.map (·.2)⟩) := by
    unfold fromAuth
    cases hw : writtenSegs l with
    | nil =>
      have hl0 : l = [] := by
        cases l with
        | nil => rfl
        | cons y l => simp [writtenSegs] at hw
      show (match readAuth H (cutSlash ((big ++ 58 :: pt) ++ [])).1 s with | .error e => (Except.error e : Except Int (Auth × Way)) | .ok a => .ok (a, readWay s [] (cutSlash ((big ++ 58 :: pt) ++ [])).2)) = _
      rw [List.append_nil, cutSlash_none _ hns, ra, if_pos hl0]
      show Except.ok (plainAuth h, readWay s [] []) = _
      have : readWay s [] [] = ⟨false, [], [[]]⟩ := by
        unfold readWay readSegs
        rw [if_neg (by simp [f1]), show splitOn 47 (trimSlash []) = [[]] by decide +kernel, segLoop, if_pos (by decide +kernel)]
        show (⟨false, [], segLoop s [tellSeg s [] true] []⟩ : Way) = _
        have : tellSeg s [] true = [] := by
          unfold tellSeg
          rw [if_neg (by simp [isDrive])]
          rfl
        rw [this]
        rfl
      rw [this]
    | cons p ps =>
      have hln : l ≠ [] := by
        intro h0
        rw [h0] at hw
        simp [writtenSegs] at hw
      have hps := written_slash l hl
      rw [hw] at hps
      show (match readAuth H (cutSlash ((big ++ 58 :: pt) ++ 47 :: (p ++ tellSegs ps))).1 s with | .error e => (Except.error e : Except Int (Auth × Way)) | .ok a => .ok (a, readWay s [] (cutSlash ((big ++ 58 :: pt) ++ 47 :: (p ++ tellSegs ps))).2)) = _
      rw [cutSlash_at _ _ hns, ra, if_neg hln]
      show Except.ok (plainAuth h, readWay s [] (47 :: (p ++ tellSegs ps))) = _
      rw [segs_way s p ps [] (hps p (by simp)) (fun q hq => hps q (by simp [hq])), ← hw, written_loop s f2 l [] hl]
      rfl
  rw [ef]
end
end Go.Moor
/-
  Plain mathematics on addresses that are written in many ways: a login, a port with noughts, what is refused, an opaque path.
-/
namespace Go.Moor
open Go

theorem decAcc_app : ∀ (l r : Bs) (n : Nat), decAcc n (l ++ r) = decAcc (decAcc n l) r
  | [], _, _ => rfl
  | c :: l, r, n => by
    show decAcc (n * 10 + (c.toNat - 48)) (l ++ r) = _
    rw [decAcc_app l r]
    rfl
theorem dec_digit : ∀ d : Fin 10, isDigit (UInt8.ofNat (48 + d.val)) = true ∧ (UInt8.ofNat (48 + d.val)).toNat - 48 = d.val := by decide +kernel
theorem dec_all (P : Nat) : (∀ c ∈ Lib.decDigits P, isDigit c = true) ∧ decAcc 0 (Lib.decDigits P) = P ∧ Lib.decDigits P ≠ [] := by
  induction P using Nat.strongRecOn with
  | _ P ih =>
    by_cases h : P < 10
    · have hd := dec_digit ⟨P, h⟩
      rw [Lib.decDigits_one h]
      refine ⟨?_, ?_, by simp⟩
      · intro c hc
        rw [List.mem_singleton.1 hc]
        exact hd.1
      · show 0 * 10 + ((UInt8.ofNat (48 + P)).toNat - 48) = P
        have := hd.2
        simp only at this
        omega
    · have hd := dec_digit ⟨P % 10, by omega⟩
      obtain ⟨i1, i2, i3⟩ := ih (P / 10) (by omega)
      rw [Lib.decDigits, dif_neg h]
      refine ⟨?_, ?_, by simp⟩
      · intro c hc
        rcases List.mem_append.1 hc with hc | hc
        · exact i1 c hc
        · rw [List.mem_singleton.1 hc]
          exact hd.1
      · rw [decAcc_app, i2]
        show P / 10 * 10 + ((UInt8.ofNat (48 + P % 10)).toNat - 48) = P
        have := hd.2
        simp only at this
        omega
theorem digit_ne (c : UInt8) (h : isDigit c = true) (k : Nat) (hk : k < 48 ∨ 57 < k) (hk2 : k < 256) : c ≠ k.toUInt8 := by
  intro e
  rw [e] at h
  have e2 : (k.toUInt8).toNat = k := by rw [show k.toUInt8.toNat = k % 256 from rfl]; omega
  unfold isDigit at h
  rw [e2] at h
  simp at h
  omega
theorem digit_calm (c : UInt8) (h : isDigit c = true) : calmB c ∧ c ≠ 47 ∧ c ≠ 64 := by
  refine ⟨⟨?_, digit_ne c h 35 (by omega) (by omega), digit_ne c h 63 (by omega) (by omega), digit_ne c h 92 (by omega) (by omega)⟩, digit_ne c h 47 (by omega) (by omega), digit_ne c h 64 (by omega) (by omega)⟩
  unfold isDigit at h
  simp at h
  omega

/-- The port that is told of a number. -/
def toldPort (s : Bs) (P : Nat) : Int := if (P : Int) = (ownPort s).1 then -1 else P
theorem port_good (s pt : Bs) (P : Nat) (hn : pt ≠ []) (hd : ∀ c ∈ pt, isDigit c = true) (hv : decAcc 0 pt = P) (hP : P ≤ 65535) : readPort pt s = some (toldPort s P) := by
  unfold readPort
  rw [if_neg hn, hv, if_pos (by
    rw [Bool.and_eq_true]
    exact ⟨List.all_eq_true.2 hd, decide_eq_true hP⟩)]
  unfold toldPort
  split <;> rfl
theorem port_great (s pt : Bs) (P : Nat) (hn : pt ≠ []) (hv : decAcc 0 pt = P) (hP : 65535 < P) : readPort pt s = none := by
  unfold readPort
  rw [if_neg hn, hv, if_neg (by
    rw [Bool.and_eq_true]
    intro h
    have := of_decide_eq_true h.2
    omega)]
theorem noughts_dec (P : Nat) : decAcc 0 ([48, 48, 48] ++ Lib.decDigits P) = P := by
  rw [decAcc_app]
  exact (dec_all P).2.1

section
variable (H : Bs → Bool → Option Bs)

/-- Of a special scheme, with an authority behind two slashes. -/
theorem read_named (s m : Bs) (q f : Option Bs) (hs : s ∈ five) (hm : ∀ c ∈ m, calmB c) (hq : ∀ x, q = some x → ∀ c ∈ x, c ≠ 35 ∧ 33 ≤ c.toNat) (hf : ∀ x, f = some x → ∀ c ∈ x, 33 ≤ c.toNat) (hh : m.head? ≠ some 47) :
    readAddr H (s ++ 58 :: ((47 :: 47 :: m) ++ (tellOpt 63 q ++ tellOpt 35 f))) none =
      match fromAuth H s m with
      | .error e => .error e
      | .ok (a, w) => .ok ⟨s, a, w, q.map (esc 3), f.map (esc 1)⟩ := by
  obtain ⟨f1, f2, f3, f4, f5, f6⟩ := five_ok s hs
  have hm2 : ∀ c ∈ 47 :: 47 :: m, calmB c := by
    intro c hc
    simp only [List.mem_cons] at hc
    rcases hc with rfl | rfl | hc
    · exact c47
    · exact c47
    · exact hm c hc
  unfold readAddr
  rw [strip_same _ (by
    intro c hx
    rcases List.mem_append.1 hx with hx | hx
    · exact (f6 c hx).2
    · rcases List.mem_cons.1 hx with rfl | hx
      · decide
      · rcases List.mem_append.1 hx with hx | hx
        · exact (hm2 c hx).1
        · rcases List.mem_append.1 hx with hx | hx
          · cases q with
            | none => simp [tellOpt] at hx
            | some x =>
              simp only [tellOpt, List.mem_cons] at hx
              rcases hx with rfl | hx
              · decide
              · exact (hq x rfl c hx).2
          · cases f with
            | none => simp [tellOpt] at hx
            | some x =>
              simp only [tellOpt, List.mem_cons] at hx
              rcases hx with rfl | hx
              · decide
              · exact hf x rfl c hx), cutMarks_named s _ q f f4 f5 (fun c hx => (f6 c hx).1) (fun c hx => ⟨(hm2 c hx).2.1, (hm2 c hx).2.2.1⟩) (fun x hx c hc => (hq x hx c hc).1)]
  unfold readCuts
  rw [if_pos f3]
  show readMarked H s (47 :: 47 :: m) q f none = _
  unfold readMarked
  rw [even_same s _ (fun c hx => (hm2 c hx).2.2.2)]
  unfold readMiddle
  rw [if_neg f2]
  have e3 : querySet s = 3 := by unfold querySet; rw [if_pos f1]
  show (match (match (if special s = true then fromAuth H s (trimSlashes (47 :: 47 :: m)) else _) with | .error e => (.error e : Except Int (Auth × Way × Option Bs)) | .ok (a, w) => .ok (a, w, Option.map (esc (querySet s)) q)) with | .error e => (.error e : Except Int Adr) | .ok (a, w, q2) => .ok ⟨s, a, w, q2, Option.map (esc 1) f⟩) = _
  rw [if_pos f1, trim_two _ hh, e3]
  cases fromAuth H s m with
  | error e => rfl
  | ok y => rfl

theorem cutLast_some (c : UInt8) (a b : Bs) (hb : ∀ x ∈ b, x ≠ c) : cutLast c (a ++ c :: b) = some (a, b) := by
  unfold cutLast
  have e : (a ++ c :: b).reverse = b.reverse ++ c :: a.reverse := by simp
  rw [e, cutB_some c _ b.reverse (fun x hx => hb x (by simpa using hx))]
  simp

def wLogin : Bs := [117, 59, 118, 58, 112, 64, 113]
def wUser : Bs := [117, 37, 51, 66, 118]
def wPass : Bs := [112, 37, 52, 48, 113]
theorem way_root (s : Bs) (hs : special s = true) : readWay s [] [] = ⟨false, [], [[]]⟩ := by
  unfold readWay readSegs
  rw [if_neg (by simp [hs]), show splitOn 47 (trimSlash []) = [[]] by decide +kernel, segLoop, if_pos (by decide +kernel)]
  show (⟨false, [], segLoop s [tellSeg s [] true] []⟩ : Way) = _
  have : tellSeg s [] true = [] := by
    unfold tellSeg
    rw [if_neg (by simp [isDrive])]
    rfl
  rw [this]
  rfl
theorem auth_login (s h pt : Bs) (n : Int) (hs : special s = true) (hh : HostOk H h) (hp : ∀ c ∈ pt, c ≠ 64) (hr : readPort pt s = some n) : readAuth H (wLogin ++ 64 :: (h ++ 58 :: pt)) s = .ok ⟨wUser, wPass, true, h, n⟩ := by
  have e1 : cutLogin (wLogin ++ 64 :: (h ++ 58 :: pt)) = (wLogin, h ++ 58 :: pt) := by
    unfold cutLogin
    rw [cutLast_some 64 wLogin _ (by
      intro c hc
      simp only [List.mem_append, List.mem_cons] at hc
      rcases hc with hc | rfl | hc
      · exact (hh.bytes c hc).2.2.1
      · decide
      · exact hp c hc)]
  have e2 : brackets (h ++ 58 :: pt) = 0 := by
    unfold brackets
    rw [if_neg]
    match h, hh.ne, hh.bytes with
    | c :: r, _, hb =>
      have := (hb c (by simp)).2.2.2.2
      simpa using this
  have e3 : cutPort (h ++ 58 :: pt) = (h, pt) := by
    unfold cutPort
    rw [e2]
    show (match cutB 58 (h ++ 58 :: pt) with | some (a, b) => ([] ++ a, b) | none => (h ++ 58 :: pt, [])) = _
    rw [cutB_some 58 pt h (fun c hc => (hh.bytes c hc).2.2.2.1)]
    rfl
  have e4 : tellHost H h (wLogin ++ 64 :: (h ++ 58 :: pt)) s = some h := by
    unfold tellHost
    rw [if_neg (fun x => hh.ne x.1), hs, hh.told]
  have e5 : cutOpt 58 wLogin = ([117, 59, 118], some [112, 64, 113]) := by decide +kernel
  unfold readAuth
  rw [e1]
  show (match tellHost H (cutPort (h ++ 58 :: pt)).1 (wLogin ++ 64 :: (h ++ 58 :: pt)) s with | none => (Except.error 4 : Except Int Auth) | some x => match readPort (cutPort (h ++ 58 :: pt)).2 s with | none => (Except.error 5 : Except Int Auth) | some p => (.ok ⟨esc 5 (cutOpt 58 wLogin).1, esc 5 ((cutOpt 58 wLogin).2.getD []), true, x, p⟩ : Except Int Auth)) = _
  rw [e3, e4, e5]
  show (match readPort pt s with | none => (Except.error 5 : Except Int Auth) | some p => (.ok ⟨esc 5 [117, 59, 118], esc 5 [112, 64, 113], true, h, p⟩ : Except Int Auth)) = _
  rw [hr, show esc 5 [117, 59, 118] = wUser by decide +kernel, show esc 5 [112, 64, 113] = wPass by decide +kernel]
theorem from_bare (s t : Bs) (hs : special s = true) (ht : ∀ c ∈ t, c ≠ 47) : fromAuth H s t = match readAuth H t s with | .error e => .error e | .ok a => .ok (a, ⟨false, [], [[]]⟩) := by
  unfold fromAuth
  show (match readAuth H (cutSlash t).1 s with | .error e => (Except.error e : Except Int (Auth × Way)) | .ok a => .ok (a, readWay s [] (cutSlash t).2)) = _
  rw [cutSlash_none t ht]
  cases readAuth H t s with
  | error e => rfl
  | ok a =>
    show Except.ok (a, readWay s [] []) = _
    rw [way_root s hs]
theorem host_only (h pt : Bs) (hh : HostOk H h) (hpt : ∀ c ∈ pt, calmB c ∧ c ≠ 47 ∧ c ≠ 64) : ∀ c ∈ h ++ 58 :: pt, calmB c ∧ c ≠ 47 := by
  intro c hc
  simp only [List.mem_append, List.mem_cons] at hc
  rcases hc with hc | rfl | hc
  · exact ⟨(hh.bytes c hc).1, (hh.bytes c hc).2.1⟩
  · exact ⟨⟨by decide, by decide, by decide, by decide⟩, by decide⟩
  · exact ⟨(hpt c hc).1, (hpt c hc).2.1⟩

def qTxt : Bs := [97, 39, 98, 34, 99]
def fTxt : Bs := [100, 96, 101]
theorem written_b (s h : Bs) (P : Nat) (hs : s ∈ five) (hh : HostOk H h) (hP : P ≤ 65535) :
    readAddr H (s ++ 58 :: ((47 :: 47 :: (wLogin ++ 64 :: (h ++ 58 :: ([48, 48, 48] ++ Lib.decDigits P)))) ++ (tellOpt 63 (some qTxt) ++ tellOpt 35 (some fTxt)))) none
      = .ok ⟨s, ⟨wUser, wPass, true, h, toldPort s P⟩, ⟨false, [], [[]]⟩, some [97, 37, 50, 55, 98, 37, 50, 50, 99], some [100, 37, 54, 48, 101]⟩ := by
  obtain ⟨f1, f2, f3, f4, f5, f6⟩ := five_ok s hs
  obtain ⟨d1, d2, d3⟩ := dec_all P
  have hd : ∀ c ∈ [48, 48, 48] ++ Lib.decDigits P, isDigit c = true := by
    intro c hc
    rcases List.mem_append.1 hc with hc | hc
    · simp at hc; subst hc; decide
    · exact d1 c hc
  have hb := host_only H h ([48, 48, 48] ++ Lib.decDigits P) hh (fun c hc => digit_calm c (hd c hc))
  have hw : ∀ c ∈ wLogin ++ 64 :: (h ++ 58 :: ([48, 48, 48] ++ Lib.decDigits P)), calmB c ∧ c ≠ 47 := by
    intro c hc
    rcases List.mem_append.1 hc with hc | hc
    · have hl : ∀ c ∈ wLogin, calmB c ∧ c ≠ 47 := by
        unfold calmB
        decide +kernel
      exact hl c hc
    · rcases List.mem_cons.1 hc with rfl | hc
      · exact ⟨⟨by decide, by decide, by decide, by decide⟩, by decide⟩
      · exact hb c hc
  rw [read_named H s _ (some qTxt) (some fTxt) hs (fun c hc => (hw c hc).1) (by intro x hx; cases hx; decide +kernel) (by intro x hx; cases hx; decide +kernel) (by simp [wLogin])]
  rw [from_bare H s _ f1 (fun c hc => (hw c hc).2), auth_login H s h _ (toldPort s P) f1 hh (fun c hc => (digit_calm c (hd c hc)).2.2) (port_good s _ P (by simp) hd (noughts_dec P) hP)]
  show Except.ok (⟨s, _, _, some (esc 3 qTxt), some (esc 1 fTxt)⟩ : Adr) = _
  rw [show esc 3 qTxt = [97, 37, 50, 55, 98, 37, 50, 50, 99] by decide +kernel, show esc 1 fTxt = [100, 37, 54, 48, 101] by decide +kernel]
theorem auth_great (s h pt : Bs) (hs : special s = true) (hh : HostOk H h) (hp : ∀ c ∈ pt, c ≠ 64) (hr : readPort pt s = none) : readAuth H (h ++ 58 :: pt) s = .error 5 := by
  have e1 : cutLogin (h ++ 58 :: pt) = ([], h ++ 58 :: pt) := by
    unfold cutLogin cutLast
    rw [cutB_none 64 _ (by
      intro c hc
      simp only [List.mem_reverse, List.mem_append, List.mem_cons] at hc
      rcases hc with hc | rfl | hc
      · exact (hh.bytes c hc).2.2.1
      · decide
      · exact hp c hc)]
    rfl
  have e2 : brackets (h ++ 58 :: pt) = 0 := by
    unfold brackets
    rw [if_neg]
    match h, hh.ne, hh.bytes with
    | c :: r, _, hb =>
      have := (hb c (by simp)).2.2.2.2
      simpa using this
  have e3 : cutPort (h ++ 58 :: pt) = (h, pt) := by
    unfold cutPort
    rw [e2]
    show (match cutB 58 (h ++ 58 :: pt) with | some (a, b) => ([] ++ a, b) | none => (h ++ 58 :: pt, [])) = _
    rw [cutB_some 58 pt h (fun c hc => (hh.bytes c hc).2.2.2.1)]
    rfl
  have e4 : tellHost H h (h ++ 58 :: pt) s = some h := by
    unfold tellHost
    rw [if_neg (fun x => hh.ne x.1), hs, hh.told]
  unfold readAuth
  rw [e1]
  show (match tellHost H (cutPort (h ++ 58 :: pt)).1 (h ++ 58 :: pt) s with | none => (Except.error 4 : Except Int Auth) | some x => match readPort (cutPort (h ++ 58 :: pt)).2 s with | none => (Except.error 5 : Except Int Auth) | some p => _) = _
  rw [e3, e4]
  show (match readPort pt s with | none => (Except.error 5 : Except Int Auth) | some p => _) = _
  rw [hr]
theorem written_c (s h : Bs) (P : Nat) (hs : s ∈ five) (hh : HostOk H h) (hP : 65535 < P) :
    readAddr H (s ++ 58 :: 47 :: 47 :: (h ++ 58 :: Lib.decDigits P)) none = .error 5 := by
  obtain ⟨f1, f2, f3, f4, f5, f6⟩ := five_ok s hs
  obtain ⟨d1, d2, d3⟩ := dec_all P
  have hw := host_only H h (Lib.decDigits P) hh (fun c hc => digit_calm c (d1 c hc))
  have := read_named H s (h ++ 58 :: Lib.decDigits P) none none hs (fun c hc => (hw c hc).1) (fun _ h => by cases h) (fun _ h => by cases h) (host_head H h _ hh)
  rw [show (47 :: 47 :: (h ++ 58 :: Lib.decDigits P)) ++ (tellOpt 63 none ++ tellOpt 35 none) = 47 :: 47 :: (h ++ 58 :: Lib.decDigits P) by simp [tellOpt]] at this
  rw [this, from_bare H s _ f1 (fun c hc => (hw c hc).2), auth_great H s h _ f1 hh (fun c hc => (digit_calm c (d1 c hc)).2.2) (port_great s _ P d3 d2 hP)]
theorem written_d (s : Bs) (hs : s ∈ five) (hH : H [] true = none) : readAddr H (s ++ [58, 47, 47]) none = .error 4 := by
  obtain ⟨f1, f2, f3, f4, f5, f6⟩ := five_ok s hs
  have := read_named H s [] none none hs (by simp) (fun _ h => by cases h) (fun _ h => by cases h) (by simp)
  rw [show s ++ 58 :: ([47, 47] ++ (tellOpt 63 none ++ tellOpt 35 none)) = s ++ [58, 47, 47] by simp [tellOpt]] at this
  rw [this, from_bare H s _ f1 (by simp)]
  have e : readAuth H [] s = .error 4 := by
    unfold readAuth
    rw [show cutLogin [] = ([], []) by decide +kernel]
    show (match tellHost H (cutPort []).1 [] s with | none => (Except.error 4 : Except Int Auth) | some x => _) = _
    rw [show cutPort [] = ([], []) by decide +kernel]
    have : tellHost H [] [] s = none := by
      unfold tellHost
      rw [if_neg (by simp), f1, hH]
    show (match tellHost H [] [] s with | none => (Except.error 4 : Except Int Auth) | some x => _) = _
    rw [this]
  rw [e]
theorem written_e (s : Bs) (hs : s ∈ five) : readAddr H (s ++ [58, 47, 47, 117, 64]) none = .error 4 := by
  obtain ⟨f1, f2, f3, f4, f5, f6⟩ := five_ok s hs
  have := read_named H s [117, 64] none none hs (by unfold calmB; decide) (fun _ h => by cases h) (fun _ h => by cases h) (by decide)
  rw [show s ++ 58 :: ((47 :: 47 :: [117, 64]) ++ (tellOpt 63 none ++ tellOpt 35 none)) = s ++ [58, 47, 47, 117, 64] by simp [tellOpt]] at this
  rw [this, from_bare H s _ f1 (by decide)]
  have e : readAuth H [117, 64] s = .error 4 := by
    unfold readAuth
    rw [show cutLogin [117, 64] = ([117], []) by decide +kernel]
    show (match tellHost H (cutPort []).1 [117, 64] s with | none => (Except.error 4 : Except Int Auth) | some x => match readPort (cutPort []).2 s with | none => (Except.error 5 : Except Int Auth) | some p => (.ok ⟨esc 5 (cutOpt 58 [117]).1, esc 5 ((cutOpt 58 [117]).2.getD []), true, x, p⟩ : Except Int Auth)) = _
    rw [show cutPort [] = ([], []) by decide +kernel]
    have : tellHost H [] [117, 64] s = none := by
      unfold tellHost
      rw [if_pos ⟨rfl, by simp⟩]
    rw [show tellHost H (([], []) : Bs × Bs).1 [117, 64] s = none from this]
  rw [e]

/-- An opaque path. -/
theorem esc_app (s : Int) (a b : Bs) : esc s (a ++ b) = esc s a ++ esc s b := by
  unfold esc
  rw [List.flatMap_append]
theorem ctl_out : ∀ k : Fin 256, 33 ≤ k.val → k.val ≤ 126 → holdsB 0 (k.val : Int) = false := by decide +kernel
theorem written_f (h : Bs) (hne : h ≠ []) (hh : ∀ c ∈ h, calmB c ∧ c.toNat ≤ 126 ∧ c ≠ 47) :
    readAddr H (120 :: 58 :: (h ++ [32, 121, 127])) none = .ok ⟨[120], noAuth, ⟨true, h ++ [37, 50, 48, 121, 37, 55, 70], []⟩, none, none⟩ := by
  have hm : ∀ c ∈ h ++ [32, 121, 127], c ≠ 35 ∧ c ≠ 63 ∧ c ≠ 92 := by
    intro c hc
    rcases List.mem_append.1 hc with hc | hc
    · exact ⟨(hh c hc).1.2.1, (hh c hc).1.2.2.1, (hh c hc).1.2.2.2⟩
    · simp at hc; rcases hc with rfl | rfl | rfl <;> decide
  have est : stripB (120 :: 58 :: (h ++ [32, 121, 127])) = 120 :: 58 :: (h ++ [32, 121, 127]) := by
    unfold stripB
    have e := trimB_core [] (120 :: 58 :: (h ++ [32, 121, 127])) [] (by simp) (by simp) (by intro x hx; simp at hx; subst hx; decide) (by
      intro x hx
      have : (120 :: 58 :: (h ++ [32, 121, 127])).getLast? = some 127 := by
        rw [show 120 :: 58 :: (h ++ [32, 121, 127]) = (120 :: 58 :: (h ++ [32, 121])) ++ [127] by simp, List.getLast?_concat]
      rw [this] at hx
      cases hx
      decide)
    simp only [List.nil_append, List.append_nil] at e
    rw [e, show 120 :: 58 :: (h ++ [32, 121, 127]) = [120, 58] ++ (h ++ [32, 121, 127]) from rfl, List.filter_append, List.filter_append, filter_core h (fun c hc => (hh c hc).1.1)]
    rfl
  unfold readAddr
  rw [est]
  have := cutMarks_named [120] (h ++ [32, 121, 127]) none none (by decide +kernel) (by decide +kernel) (by decide) (fun c hc => ⟨(hm c hc).1, (hm c hc).2.1⟩) (fun _ h => by cases h)
  rw [show [120] ++ 58 :: ((h ++ [32, 121, 127]) ++ (tellOpt 63 none ++ tellOpt 35 none)) = 120 :: 58 :: (h ++ [32, 121, 127]) by simp [tellOpt]] at this
  rw [this]
  unfold readCuts
  rw [if_pos (show ([120] : Bs) ≠ [] by decide)]
  show readMarked H [120] (h ++ [32, 121, 127]) none none none = _
  unfold readMarked
  rw [even_same _ _ (fun c hc => (hm c hc).2.2)]
  unfold readMiddle
  rw [if_neg (by decide)]
  show (match (match (if special [120] = true then _ else readOther H [120] (h ++ [32, 121, 127])) with | .error e => (.error e : Except Int (Auth × Way × Option Bs)) | .ok (a, w) => .ok (a, w, none)) with | .error e => (.error e : Except Int Adr) | .ok (a, w, q2) => .ok ⟨[120], a, w, q2, none⟩) = _
  rw [show special [120] = false by decide +kernel, if_neg (by decide)]
  have hhd : (h ++ [32, 121, 127]).head? ≠ some 47 := by
    match h, hne, hh with
    | c :: r, _, hb =>
      have := (hb c (by simp)).2.2
      simpa using this
  have eo : readOther H [120] (h ++ [32, 121, 127]) = .ok (noAuth, ⟨true, escOpaque (h ++ [32, 121, 127]), []⟩) := by
    unfold readOther
    rw [if_neg (by
      match h, hne, hh with
      | c :: r, _, hb =>
        have := (hb c (by simp)).2.2
        simp [List.isPrefixOf]
        intro h
        exact absurd h.symm this), if_neg hhd]
  have ee : escOpaque (h ++ [32, 121, 127]) = h ++ [37, 50, 48, 121, 37, 55, 70] := by
    unfold escOpaque
    rw [esc_app, esc_same 0 h (fun c hc => ctl_out ⟨c.toNat, c.toNat_lt⟩ (hh c hc).1.1 (hh c hc).2.1), List.flatMap_append]
    have e1 : (h.flatMap fun c => if c = 32 then [37, 50, 48] else [c]) = h := by
      have : ∀ l : Bs, (∀ c ∈ l, c ≠ 32) → (l.flatMap fun c => if c = 32 then [37, 50, 48] else [c]) = l := by
        intro l hl
        induction l with
        | nil => rfl
        | cons c l ih => rw [List.flatMap_cons, if_neg (hl c (by simp)), ih (fun x hx => hl x (by simp [hx]))]; rfl
      refine this h (fun c hc e => ?_)
      have := (hh c hc).1.1
      rw [e] at this
      exact absurd this (by decide)
    rw [e1, show ((esc 0 [32, 121, 127]).flatMap fun c => if c = 32 then [37, 50, 48] else [c]) = [37, 50, 48, 121, 37, 55, 70] by decide +kernel]
  rw [eo, ee]
end
end Go.Moor
/-
  Plain mathematics of addresses as they are told: what holds of every address that was read (Good), and that such an address, told, is read as itself, beside whatever base; what hosts are is handed in (H), under the laws HostLaws; no program is named here.
-/
namespace Go.Moor
open Go

/-- What is asked of hosts. -/
structure HostLaws (H : Bs → Bool → Option Bs) : Prop where
  again : ∀ t sp h, H t sp = some h → H h sp = some h
  bytes : ∀ t sp h, H t sp = some h → ∀ c ∈ h, 33 ≤ c.toNat ∧ c.toNat ≤ 126 ∧ c ≠ 35 ∧ c ≠ 47 ∧ c ≠ 63 ∧ c ≠ 64 ∧ c ≠ 92 ∧ c ≠ 124
  marks : ∀ t sp h, H t sp = some h → (∀ c ∈ h, c ≠ 58 ∧ c ≠ 91) ∨ ∃ x, h = 91 :: (x ++ [93]) ∧ ∀ c ∈ x, c ≠ 93
  ne : ∀ t h, H t true = some h → h ≠ []
  none : H [] false = some []
  nil : ∀ t sp, H t sp = some [] → t = []

def goodSeg (s p : Bs) : Prop := dots p = 0 ∧ ∀ c ∈ p, holdsB 4 c.toNat = false ∧ c ≠ 47 ∧ (special s = true → c ≠ 92)

structure Good (H : Bs → Bool → Option Bs) (a : Adr) : Prop where
  scheme : isSchemeB a.scheme = true
  low : Lib.toLowerA a.scheme = a.scheme
  user : ∀ c ∈ a.auth.user, holdsB 5 c.toNat = false
  pass : ∀ c ∈ a.auth.pass, holdsB 5 c.toNat = false
  bare : a.auth.has = false → a.auth = noAuth
  host : a.auth.has = true → a.scheme ≠ sFile → H a.auth.host (special a.scheme) = some a.auth.host
  hostF : a.scheme = sFile → fileHost H a.auth.host = some a.auth.host
  empty : a.auth.host = [] → a.auth.user = [] ∧ a.auth.pass = [] ∧ a.auth.port = -1
  file : a.scheme = sFile → a.auth.user = [] ∧ a.auth.pass = [] ∧ a.auth.port = -1
  port : a.auth.port = -1 ∨ (0 ≤ a.auth.port ∧ a.auth.port ≤ 65535 ∧ a.auth.port ≠ (ownPort a.scheme).1)
  spec : special a.scheme = true → a.auth.has = true ∧ a.way.opaq = false ∧ a.way.segs ≠ []
  opaq : a.way.opaq = true → a.auth.has = false ∧ a.way.segs = [] ∧ (∀ c ∈ a.way.text, 33 ≤ c.toNat ∧ c.toNat ≤ 126 ∧ c ≠ 35 ∧ c ≠ 63) ∧ a.way.text.head? ≠ some 47
  text : a.way.opaq = false → a.way.text = [] ∧ (a.auth.has = false → a.way.segs ≠ [])
  seg : ∀ p ∈ a.way.segs, goodSeg a.scheme p
  drive : a.scheme = sFile → isDrive (a.way.segs.headD []) = true → toldDrive (a.way.segs.headD []) = true
  query : ∀ q, a.query = some q → ∀ c ∈ q, holdsB (querySet a.scheme) c.toNat = false
  frag : ∀ f, a.frag = some f → ∀ c ∈ f, holdsB 1 c.toNat = false

-- what stands outside a set
theorem out5_fin : ∀ c : Fin 256, holdsB 5 c.val = false → 33 ≤ c.val ∧ c.val ≤ 126 ∧ c.val ≠ 35 ∧ c.val ≠ 47 ∧ c.val ≠ 63 ∧ c.val ≠ 64 ∧ c.val ≠ 58 ∧ c.val ≠ 91 ∧ c.val ≠ 92 := by decide +kernel
theorem out4_fin : ∀ c : Fin 256, holdsB 4 c.val = false → 33 ≤ c.val ∧ c.val ≤ 126 ∧ c.val ≠ 35 ∧ c.val ≠ 63 := by decide +kernel
theorem out3_fin : ∀ c : Fin 256, holdsB 3 c.val = false → 33 ≤ c.val ∧ c.val ≤ 126 ∧ c.val ≠ 35 := by decide +kernel
theorem out2_fin : ∀ c : Fin 256, holdsB 2 c.val = false → 33 ≤ c.val ∧ c.val ≤ 126 ∧ c.val ≠ 35 := by decide +kernel
theorem out1_fin : ∀ c : Fin 256, holdsB 1 c.val = false → 33 ≤ c.val ∧ c.val ≤ 126 := by decide +kernel
theorem ne_toNat (c : UInt8) (k : Nat) (h : c.toNat ≠ k) (hk : k < 256) : c ≠ k.toUInt8 := by
  intro e
  apply h
  rw [e, show k.toUInt8.toNat = k % 256 from rfl]
  omega
theorem out5 (c : UInt8) (h : holdsB 5 c.toNat = false) : 33 ≤ c.toNat ∧ c.toNat ≤ 126 ∧ c ≠ 35 ∧ c ≠ 47 ∧ c ≠ 63 ∧ c ≠ 64 ∧ c ≠ 58 ∧ c ≠ 91 ∧ c ≠ 92 := by
  have := out5_fin ⟨c.toNat, c.toNat_lt⟩ h
  exact ⟨this.1, this.2.1, ne_toNat c 35 this.2.2.1 (by omega), ne_toNat c 47 this.2.2.2.1 (by omega), ne_toNat c 63 this.2.2.2.2.1 (by omega), ne_toNat c 64 this.2.2.2.2.2.1 (by omega), ne_toNat c 58 this.2.2.2.2.2.2.1 (by omega), ne_toNat c 91 this.2.2.2.2.2.2.2.1 (by omega), ne_toNat c 92 this.2.2.2.2.2.2.2.2 (by omega)⟩
theorem out4 (c : UInt8) (h : holdsB 4 c.toNat = false) : 33 ≤ c.toNat ∧ c.toNat ≤ 126 ∧ c ≠ 35 ∧ c ≠ 63 := by
  have := out4_fin ⟨c.toNat, c.toNat_lt⟩ h
  exact ⟨this.1, this.2.1, ne_toNat c 35 this.2.2.1 (by omega), ne_toNat c 63 this.2.2.2 (by omega)⟩
theorem outQ (s : Bs) (c : UInt8) (h : holdsB (querySet s) c.toNat = false) : 33 ≤ c.toNat ∧ c.toNat ≤ 126 ∧ c ≠ 35 := by
  unfold querySet at h
  split at h
  · have := out3_fin ⟨c.toNat, c.toNat_lt⟩ h
    exact ⟨this.1, this.2.1, ne_toNat c 35 this.2.2 (by omega)⟩
  · have := out2_fin ⟨c.toNat, c.toNat_lt⟩ h
    exact ⟨this.1, this.2.1, ne_toNat c 35 this.2.2 (by omega)⟩
theorem out1 (c : UInt8) (h : holdsB 1 c.toNat = false) : 33 ≤ c.toNat ∧ c.toNat ≤ 126 := out1_fin ⟨c.toNat, c.toNat_lt⟩ h

theorem schemeB_fin : ∀ c : Fin 256, schemeByte c.val.toUInt8 = true → 33 ≤ c.val ∧ c.val ≤ 126 ∧ c.val ≠ 58 := by decide +kernel
theorem scheme_byte (c : UInt8) (h : schemeByte c = true) : 33 ≤ c.toNat ∧ c.toNat ≤ 126 ∧ c ≠ 58 := by
  have := schemeB_fin ⟨c.toNat, c.toNat_lt⟩ (by simpa using h)
  exact ⟨this.1, this.2.1, ne_toNat c 58 this.2.2 (by omega)⟩
theorem scheme_bytes (s : Bs) (h : isSchemeB s = true) : s ≠ [] ∧ ∀ c ∈ s, 33 ≤ c.toNat ∧ c.toNat ≤ 126 ∧ c ≠ 58 := by
  unfold isSchemeB at h
  rw [Bool.and_eq_true] at h
  refine ⟨?_, fun c hc => scheme_byte c (List.all_eq_true.1 h.2 c hc)⟩
  rintro rfl
  cases h.1

theorem tellSegs_mem (l : List Bs) (c : UInt8) (h : c ∈ tellSegs l) : c = 47 ∨ ∃ p ∈ l, c ∈ p := by
  unfold tellSegs at h
  obtain ⟨p, hp, hc⟩ := List.mem_flatMap.1 h
  rcases List.mem_cons.1 hc with h | h
  · exact Or.inl h
  · exact Or.inr ⟨p, hp, h⟩
theorem tellSegs_head (l : List Bs) : l = [] ∧ tellSegs l = [] ∨ ∃ r, tellSegs l = 47 :: r := by
  cases l with
  | nil => exact Or.inl ⟨rfl, rfl⟩
  | cons p l => exact Or.inr ⟨p ++ tellSegs l, rfl⟩
theorem cutSlash_segs (x : Bs) (l : List Bs) (h : ∀ c ∈ x, c ≠ 47) : cutSlash (x ++ tellSegs l) = (x, tellSegs l) := by
  rcases tellSegs_head l with ⟨rfl, _⟩ | ⟨r, hr⟩
  · rw [show tellSegs [] = [] from rfl, List.append_nil, cutSlash_none x h]
  · rw [hr, cutSlash_at x r h]

theorem segLoop_good (s : Bs) (r : List Bs) : ∀ (ps segs : List Bs), (∀ p ∈ ps, goodSeg s p) → (s = sFile → segs = [] → isDrive (ps.headD []) = true → toldDrive (ps.headD []) = true) → segLoop s segs (ps ++ r) = segLoop s (segs ++ ps) r
  | [], segs, _, _ => by simp
  | p :: ps, segs, h, hd => by
    have hp := h p (by simp)
    have e : esc 4 p = p := esc_same 4 p fun c hc => (hp.2 c hc).1
    have ht : tellSeg s p segs.isEmpty = p := by
      unfold tellSeg
      split
      · rename_i hx
        simp only [Bool.and_eq_true, decide_eq_true_eq, List.isEmpty_iff] at hx
        have := hd hx.1.2 hx.1.1 hx.2
        match p, hx.2, this with
        | [a, b], _, h2 =>
          simp [toldDrive] at h2
          simp [h2.2]
      · exact e
    show segLoop s segs (p :: (ps ++ r)) = _
    rw [segLoop, if_pos hp.1, ht, segLoop_good s r ps (segs ++ [p]) (fun q hq => h q (by simp [hq])) (fun _ h2 => by simp at h2)]
    simp
theorem segs_good (s : Bs) (l : List Bs) (hg : ∀ p ∈ l, goodSeg s p) (hd : s = sFile → isDrive (l.headD []) = true → toldDrive (l.headD []) = true) (hs : special s = true → l ≠ []) : readWay s [] (tellSegs l) = ⟨false, [], l⟩ := by
  cases l with
  | nil =>
    cases hsp : special s with
    | true => exact absurd rfl (hs hsp)
    | false =>
      unfold readWay readSegs
      rw [if_pos ⟨rfl, hsp⟩]
  | cons p l =>
    show readWay s [] (47 :: (p ++ tellSegs l)) = _
    rw [segs_way s p l [] (fun c hc => ((hg p (by simp)).2 c hc).2.1) (fun q hq c hc => ((hg q (by simp [hq])).2 c hc).2.1)]
    have := segLoop_good s [] (p :: l) [] hg (fun h _ => hd h)
    rw [List.append_nil, List.nil_append] at this
    rw [this]
    rfl

section
variable (H : Bs → Bool → Option Bs)

/-- A host and a port, cut. -/
theorem cutPort_none (h : Bs) (hm : (∀ c ∈ h, c ≠ 58 ∧ c ≠ 91) ∨ ∃ x, h = 91 :: (x ++ [93]) ∧ ∀ c ∈ x, c ≠ 93) : cutPort h = (h, []) := by
  rcases hm with hm | ⟨x, rfl, hx⟩
  · have e2 : brackets h = 0 := by
      unfold brackets
      rw [if_neg]
      cases h with
      | nil => simp
      | cons c r => have := (hm c (by simp)).2; simpa using this
    unfold cutPort
    rw [e2]
    show (match cutB 58 h with | some (a, b) => ([] ++ a, b) | none => (h, [])) = _
    rw [cutB_none 58 h (fun c hc => (hm c hc).1)]
  · have e2 : brackets (91 :: (x ++ [93])) = x.length + 2 := by
      unfold brackets
      rw [if_pos (by rfl), show (91 :: (x ++ [93]) : Bs) = (91 :: x) ++ 93 :: [] from rfl, cutB_some 93 [] (91 :: x) (by simpa using hx)]
      simp
    unfold cutPort
    rw [e2, show List.drop (x.length + 2) (91 :: (x ++ [93])) = [] from by simp]
    rfl
theorem cutPort_some (h p : Bs) (hm : (∀ c ∈ h, c ≠ 58 ∧ c ≠ 91) ∨ ∃ x, h = 91 :: (x ++ [93]) ∧ ∀ c ∈ x, c ≠ 93) : cutPort (h ++ 58 :: p) = (h, p) := by
  rcases hm with hm | ⟨x, rfl, hx⟩
  · have e2 : brackets (h ++ 58 :: p) = 0 := by
      unfold brackets
      rw [if_neg]
      cases h with
      | nil => simp
      | cons c r => have := (hm c (by simp)).2; simpa using this
    unfold cutPort
    rw [e2]
    show (match cutB 58 (h ++ 58 :: p) with | some (a, b) => ([] ++ a, b) | none => (_, [])) = _
    rw [cutB_some 58 p h (fun c hc => (hm c hc).1)]
    rfl
  · have e2 : brackets (91 :: (x ++ [93]) ++ 58 :: p) = x.length + 2 := by
      unfold brackets
      rw [if_pos (by rfl), show (91 :: (x ++ [93]) ++ 58 :: p : Bs) = (91 :: x) ++ 93 :: (58 :: p) from by simp, cutB_some 93 _ (91 :: x) (by simpa using hx)]
      simp
    unfold cutPort
    rw [e2, show List.drop (x.length + 2) (91 :: (x ++ [93]) ++ 58 :: p) = 58 :: p from by simp, show List.take (x.length + 2) (91 :: (x ++ [93]) ++ 58 :: p) = 91 :: (x ++ [93]) from by rw [show x.length + 2 = (91 :: (x ++ [93]) : Bs).length from by simp, List.take_left]]
    simp [cutB]

theorem noAt (t : Bs) (h : ∀ c ∈ t, c ≠ 64) : cutLogin t = ([], t) := by
  unfold cutLogin cutLast
  rw [cutB_none 64 t.reverse (fun c hc => h c (by simpa using hc))]
  rfl
theorem withAt (l t : Bs) (h : ∀ c ∈ t, c ≠ 64) : cutLogin (l ++ 64 :: t) = (l, t) := by
  unfold cutLogin
  rw [cutLast_some 64 l t h]

theorem readPort_told (s : Bs) (p : Int) (h : 0 ≤ p ∧ p ≤ 65535 ∧ p ≠ (ownPort s).1) : readPort (decB p) s = some p := by
  obtain ⟨k, rfl⟩ := Int.eq_ofNat_of_zero_le h.1
  have hd := dec_all k
  have := port_good s (Lib.decDigits k) k hd.2.2 hd.1 hd.2.1 (by omega)
  show readPort (Lib.decDigits k) s = _
  rw [this]
  unfold toldPort
  rw [if_neg h.2.2]

theorem decB_bytes (p : Int) (c : UInt8) (h : c ∈ decB p) : isDigit c = true := (dec_all p.toNat).1 c h

/-- What is told of an authority. -/
theorem auth_good (a : Auth) (s : Bs) (hl : HostLaws H) (hu : ∀ c ∈ a.user, holdsB 5 c.toNat = false) (hp : ∀ c ∈ a.pass, holdsB 5 c.toNat = false) (hh : H a.host (special s) = some a.host)
    (he : a.host = [] → a.user = [] ∧ a.pass = [] ∧ a.port = -1) (hpt : a.port = -1 ∨ (0 ≤ a.port ∧ a.port ≤ 65535 ∧ a.port ≠ (ownPort s).1)) (ha : a.has = true) :
    readAuth H (tellLogin a ++ tellPlace a) s = .ok a ∧ ∀ c ∈ tellLogin a ++ tellPlace a, 33 ≤ c.toNat ∧ c.toNat ≤ 126 ∧ c ≠ 35 ∧ c ≠ 63 ∧ c ≠ 47 ∧ c ≠ 92 := by
  have hb := hl.bytes _ _ _ hh
  have hm := hl.marks _ _ _ hh
  have hplace : (∀ c ∈ tellPlace a, 33 ≤ c.toNat ∧ c.toNat ≤ 126 ∧ c ≠ 35 ∧ c ≠ 63 ∧ c ≠ 47 ∧ c ≠ 92 ∧ c ≠ 64) ∧ (cutPort (tellPlace a)).1 = a.host ∧ readPort (cutPort (tellPlace a)).2 s = some a.port := by
    unfold tellPlace
    split
    · rename_i h1
      refine ⟨fun c hc => ?_, ?_, ?_⟩
      · have := hb c hc; exact ⟨this.1, this.2.1, this.2.2.1, this.2.2.2.2.1, this.2.2.2.1, this.2.2.2.2.2.2.1, this.2.2.2.2.2.1⟩
      · rw [cutPort_none _ hm]
      · rw [cutPort_none _ hm, h1]; rfl
    · rename_i h1
      have hpt2 := hpt.resolve_left h1
      refine ⟨fun c hc => ?_, ?_, ?_⟩
      · rcases List.mem_append.1 hc with hc | hc
        · have := hb c hc; exact ⟨this.1, this.2.1, this.2.2.1, this.2.2.2.2.1, this.2.2.2.1, this.2.2.2.2.2.2.1, this.2.2.2.2.2.1⟩
        · rcases List.mem_cons.1 hc with rfl | hc
          · decide
          · have hd := decB_bytes _ c hc
            have h2 := digit_calm c hd
            have h3 : c.toNat ≤ 126 := by
              simp [isDigit] at hd; omega
            exact ⟨h2.1.1, h3, h2.1.2.1, h2.1.2.2.1, h2.2.1, h2.1.2.2.2, h2.2.2⟩
      · rw [cutPort_some _ _ hm]
      · rw [cutPort_some _ _ hm]; exact readPort_told s _ hpt2
  obtain ⟨hpb, hp1, hp2⟩ := hplace
  have hlog : (∀ c ∈ tellLogin a, 33 ≤ c.toNat ∧ c.toNat ≤ 126 ∧ c ≠ 35 ∧ c ≠ 63 ∧ c ≠ 47 ∧ c ≠ 92) ∧ (cutLogin (tellLogin a ++ tellPlace a)).2 = tellPlace a ∧ (cutOpt 58 (cutLogin (tellLogin a ++ tellPlace a)).1).1 = a.user ∧ (cutOpt 58 (cutLogin (tellLogin a ++ tellPlace a)).1).2.getD [] = a.pass := by
    have b64 : ∀ c ∈ tellPlace a, c ≠ 64 := fun c hc => (hpb c hc).2.2.2.2.2.2
    have hub : ∀ c ∈ a.user, 33 ≤ c.toNat ∧ c.toNat ≤ 126 ∧ c ≠ 35 ∧ c ≠ 63 ∧ c ≠ 47 ∧ c ≠ 92 := fun c hc => by have := out5 c (hu c hc); exact ⟨this.1, this.2.1, this.2.2.1, this.2.2.2.2.1, this.2.2.2.1, this.2.2.2.2.2.2.2.2⟩
    have hqb : ∀ c ∈ a.pass, 33 ≤ c.toNat ∧ c.toNat ≤ 126 ∧ c ≠ 35 ∧ c ≠ 63 ∧ c ≠ 47 ∧ c ≠ 92 := fun c hc => by have := out5 c (hp c hc); exact ⟨this.1, this.2.1, this.2.2.1, this.2.2.2.2.1, this.2.2.2.1, this.2.2.2.2.2.2.2.2⟩
    have hu58 : ∀ c ∈ a.user, c ≠ 58 := fun c hc => (out5 c (hu c hc)).2.2.2.2.2.2.1
    unfold tellLogin
    split
    · rw [show (a.user ++ 58 :: (a.pass ++ [64]) ++ tellPlace a : Bs) = (a.user ++ 58 :: a.pass) ++ 64 :: tellPlace a from by simp, withAt _ _ b64, cutOpt_some 58 _ _ hu58]
      refine ⟨fun c hc => ?_, rfl, rfl, rfl⟩
      rcases List.mem_append.1 hc with hc | hc
      · exact hub c hc
      · rcases List.mem_cons.1 hc with rfl | hc
        · decide
        · rcases List.mem_append.1 hc with hc | hc
          · exact hqb c hc
          · rw [List.mem_singleton] at hc; subst hc; decide
    · rename_i h1
      have h1 : a.pass = [] := Decidable.not_not.1 h1
      split
      · rw [show (a.user ++ [64] ++ tellPlace a : Bs) = a.user ++ 64 :: tellPlace a from by simp, withAt _ _ b64, cutOpt_none 58 _ hu58, h1]
        refine ⟨fun c hc => ?_, rfl, rfl, rfl⟩
        rcases List.mem_append.1 hc with hc | hc
        · exact hub c hc
        · rw [List.mem_singleton] at hc; subst hc; decide
      · rename_i h2
        have h2 : a.user = [] := Decidable.not_not.1 h2
        rw [List.nil_append, noAt _ b64, h1, h2]
        exact ⟨fun c hc => (by cases hc), rfl, rfl, rfl⟩
  obtain ⟨hlb, hl1, hl2, hl3⟩ := hlog
  refine ⟨?_, fun c hc => ?_⟩
  · unfold readAuth
    simp only [hl1, hl2, hl3, hp1, hp2]
    have : tellHost H a.host (tellLogin a ++ tellPlace a) s = some a.host := by
      unfold tellHost
      by_cases hn : a.host = []
      · obtain ⟨x1, x2, x3⟩ := he hn
        rw [if_neg]
        · exact hh
        · rintro ⟨_, h2⟩
          apply h2
          unfold tellLogin tellPlace
          rw [x1, x2, x3, hn]
          rfl
      · rw [if_neg (fun x => hn x.1)]; exact hh
    rw [this]
    show Except.ok (⟨esc 5 a.user, esc 5 a.pass, true, a.host, a.port⟩ : Auth) = _
    rw [esc_same 5 a.user hu, esc_same 5 a.pass hp]
    cases a
    simp only at ha
    subst ha
    rfl
  · rcases List.mem_append.1 hc with hc | hc
    · exact hlb c hc
    · have := hpb c hc; exact ⟨this.1, this.2.1, this.2.2.1, this.2.2.2.1, this.2.2.2.2.1, this.2.2.2.2.2.1⟩
end
end Go.Moor
/-
  Plain mathematics: a good address, told, is read as itself, beside whatever base; its bytes; how its parts tell it.
-/
namespace Go.Moor
open Go

section
variable (H : Bs → Bool → Option Bs)

/-- What stands between the scheme and the query. -/
def tellMid (a : Adr) : Bs := tellAuth a.auth ++ (guardB a ++ tellWay a.way)
theorem tell_mid (a : Adr) : tellAddr a = a.scheme ++ 58 :: (tellMid a ++ (tellOpt 63 a.query ++ tellOpt 35 a.frag)) := by
  unfold tellAddr tellMid
  simp only [List.append_assoc]

theorem fileHost_laws (hl : HostLaws H) (h : Bs) (hh : fileHost H h = some h) : isDrive h = false ∧ ∀ c ∈ h, 33 ≤ c.toNat ∧ c.toNat ≤ 126 ∧ c ≠ 35 ∧ c ≠ 63 ∧ c ≠ 47 ∧ c ≠ 92 := by
  unfold fileHost at hh
  split at hh
  · rename_i h1; subst h1; exact ⟨rfl, fun c hc => by cases hc⟩
  · cases hx : H h true with
    | none => rw [hx] at hh; cases hh
    | some y =>
      rw [hx] at hh
      simp only at hh
      split at hh
      · rename_i h1 _
        injection hh with hh
        exact absurd hh.symm h1
      · injection hh with hh
        subst hh
        refine ⟨?_, fun c hc => ?_⟩
        · have hb := hl.bytes _ _ _ hx
          have hm := hl.marks _ _ _ hx
          cases hd : isDrive y with
          | false => rfl
          | true =>
            match y, hd with
            | [p, q], hd =>
              simp [isDrive] at hd
              rcases hm with hm | ⟨x, he, _⟩
              · have h1 := (hm q (by simp)).1
                have h2 := (hb q (by simp)).2.2.2.2.2.2.2
                rcases hd.2 with h | h
                · exact absurd h h1
                · exact absurd h h2
              · injection he with he1 _
                subst he1
                exact absurd hd.1 (by decide)
        · have := hl.bytes _ _ _ hx c hc
          exact ⟨this.1, this.2.1, this.2.2.1, this.2.2.2.2.1, this.2.2.2.1, this.2.2.2.2.2.2.1⟩

theorem file_special : special sFile = true := by decide
theorem Good.ne (a : Adr) (h : Good H a) : a.scheme ≠ [] := (scheme_bytes a.scheme h.scheme).1

/-- The bytes of the segments, told. -/
theorem way_bytes (a : Adr) (h : Good H a) : ∀ c ∈ tellWay a.way, 33 ≤ c.toNat ∧ c.toNat ≤ 126 ∧ c ≠ 35 ∧ c ≠ 63 ∧ (special a.scheme = true → c ≠ 92) := by
  intro c hc
  unfold tellWay at hc
  split at hc
  · rename_i ho
    have := (h.opaq ho).2.2.1 c hc
    refine ⟨this.1, this.2.1, this.2.2.1, this.2.2.2, fun hs => ?_⟩
    have h2 := (h.spec hs).2.1
    rw [ho] at h2
    cases h2
  · rcases tellSegs_mem _ c hc with rfl | ⟨p, hp, hcp⟩
    · exact ⟨by decide, by decide, by decide, by decide, fun _ => by decide⟩
    · have h1 := (h.seg p hp).2 c hcp
      have h2 := out4 c h1.1
      exact ⟨h2.1, h2.2.1, h2.2.2.1, h2.2.2.2, h1.2.2⟩
theorem guard_bytes (a : Adr) : ∀ c ∈ guardB a, 33 ≤ c.toNat ∧ c.toNat ≤ 126 ∧ c ≠ 35 ∧ c ≠ 63 ∧ c ≠ 92 := by
  intro c hc
  unfold guardB at hc
  split at hc
  · simp only [List.mem_cons, List.not_mem_nil, or_false] at hc
    rcases hc with rfl | rfl <;> decide
  · cases hc
theorem host_any (hl : HostLaws H) (a : Adr) (h : Good H a) (hh : a.auth.has = true) (hf : a.scheme ≠ sFile) : readAuth H (tellLogin a.auth ++ tellPlace a.auth) a.scheme = .ok a.auth ∧ ∀ c ∈ tellLogin a.auth ++ tellPlace a.auth, 33 ≤ c.toNat ∧ c.toNat ≤ 126 ∧ c ≠ 35 ∧ c ≠ 63 ∧ c ≠ 47 ∧ c ≠ 92 := auth_good H a.auth a.scheme hl h.user h.pass (h.host hh hf) h.empty h.port hh
theorem auth_bytes (hl : HostLaws H) (a : Adr) (h : Good H a) : ∀ c ∈ tellAuth a.auth, 33 ≤ c.toNat ∧ c.toNat ≤ 126 ∧ c ≠ 35 ∧ c ≠ 63 ∧ c ≠ 92 := by
  intro c hc
  unfold tellAuth at hc
  split at hc
  · rename_i hh
    rcases List.mem_cons.1 hc with rfl | hc
    · decide
    rcases List.mem_cons.1 hc with rfl | hc
    · decide
    by_cases hf : a.scheme = sFile
    · obtain ⟨h1, h2, h3⟩ := h.file hf
      have e : tellLogin a.auth ++ tellPlace a.auth = a.auth.host := by
        unfold tellLogin tellPlace
        rw [h1, h2, h3]
        rfl
      rw [e] at hc
      have := (fileHost_laws H hl _ (h.hostF hf)).2 c hc
      exact ⟨this.1, this.2.1, this.2.2.1, this.2.2.2.1, this.2.2.2.2.2⟩
    · have := (host_any H hl a h hh hf).2 c hc
      exact ⟨this.1, this.2.1, this.2.2.1, this.2.2.2.1, this.2.2.2.2.2⟩
  · cases hc
theorem mid_bytes (hl : HostLaws H) (a : Adr) (h : Good H a) : ∀ c ∈ tellMid a, 33 ≤ c.toNat ∧ c.toNat ≤ 126 ∧ c ≠ 35 ∧ c ≠ 63 ∧ (special a.scheme = true → c ≠ 92) := by
  intro c hc
  unfold tellMid at hc
  rcases List.mem_append.1 hc with hc | hc
  · have := auth_bytes H hl a h c hc
    exact ⟨this.1, this.2.1, this.2.2.1, this.2.2.2.1, fun _ => this.2.2.2.2⟩
  rcases List.mem_append.1 hc with hc | hc
  · have := guard_bytes a c hc
    exact ⟨this.1, this.2.1, this.2.2.1, this.2.2.2.1, fun _ => this.2.2.2.2⟩
  · exact way_bytes H a h c hc
theorem tell_bytes (hl : HostLaws H) (a : Adr) (h : Good H a) : ∀ c ∈ tellAddr a, 33 ≤ c.toNat ∧ c.toNat ≤ 126 := by
  intro c hc
  rw [tell_mid] at hc
  rcases List.mem_append.1 hc with hc | hc
  · have := (scheme_bytes a.scheme h.scheme).2 c hc
    exact ⟨this.1, this.2.1⟩
  rcases List.mem_cons.1 hc with rfl | hc
  · decide
  rcases List.mem_append.1 hc with hc | hc
  · have := mid_bytes H hl a h c hc
    exact ⟨this.1, this.2.1⟩
  rcases List.mem_append.1 hc with hc | hc
  · cases hq : a.query with
    | none => rw [hq] at hc; cases hc
    | some q =>
      rw [hq] at hc
      rcases List.mem_cons.1 hc with rfl | hc
      · decide
      · have := outQ a.scheme c (h.query q hq c hc)
        exact ⟨this.1, this.2.1⟩
  · cases hq : a.frag with
    | none => rw [hq] at hc; cases hc
    | some q =>
      rw [hq] at hc
      rcases List.mem_cons.1 hc with rfl | hc
      · decide
      · exact out1 c (h.frag q hq c hc)

/-- A text is cut as the address was told. -/
theorem cut_told (hl : HostLaws H) (a : Adr) (h : Good H a) : cutMarks (stripB (tellAddr a)) = ⟨a.scheme, tellMid a, a.query, a.frag⟩ := by
  rw [strip_same _ (fun c hc => (tell_bytes H hl a h c hc).1), tell_mid]
  exact cutMarks_named a.scheme (tellMid a) a.query a.frag h.scheme h.low (fun c hc => ((scheme_bytes a.scheme h.scheme).2 c hc).2.2) (fun c hc => by have := mid_bytes H hl a h c hc; exact ⟨this.2.2.1, this.2.2.2.1⟩) (fun x hx c hc => (outQ a.scheme c (h.query x hx c hc)).2.2)

theorem opt_same (s : Int) (o : Option Bs) (h : ∀ q, o = some q → ∀ c ∈ q, holdsB s c.toNat = false) : o.map (esc s) = o := by
  cases o with
  | none => rfl
  | some q => show some (esc s q) = some q; rw [esc_same s q (h q rfl)]

theorem way_told (a : Adr) (h : Good H a) (ho : a.way.opaq = false) : readWay a.scheme [] (tellSegs a.way.segs) = a.way := by
  rw [segs_good a.scheme a.way.segs h.seg h.drive (fun hs => (h.spec hs).2.2)]
  have := (h.text ho).1
  cases hw : a.way with
  | mk o t s => rw [hw] at ho this; simp only at ho this; subst ho; subst this; rfl

theorem from_told (hl : HostLaws H) (a : Adr) (h : Good H a) (hh : a.auth.has = true) (hf : a.scheme ≠ sFile) : fromAuth H a.scheme (tellLogin a.auth ++ tellPlace a.auth ++ tellWay a.way) = .ok (a.auth, a.way) := by
  have ho : a.way.opaq = false := by
    cases ho : a.way.opaq with
    | false => rfl
    | true => have := (h.opaq ho).1; rw [hh] at this; cases this
  have hg := host_any H hl a h hh hf
  have e : tellWay a.way = tellSegs a.way.segs := by unfold tellWay; rw [ho]; rfl
  unfold fromAuth
  rw [e, cutSlash_segs _ _ (fun c hc => (hg.2 c hc).2.2.2.2.1)]
  simp only [hg.1, way_told H a h ho]

theorem mid_has (a : Adr) (hh : a.auth.has = true) : tellMid a = 47 :: 47 :: (tellLogin a.auth ++ tellPlace a.auth ++ tellWay a.way) := by
  unfold tellMid tellAuth guardB
  rw [if_pos hh, if_neg (by simp [hh])]
  simp

theorem place_head (hl : HostLaws H) (a : Adr) (h : Good H a) (hs : special a.scheme = true) (hf : a.scheme ≠ sFile) : (tellLogin a.auth ++ tellPlace a.auth ++ tellWay a.way).head? ≠ some 47 := by
  have hh := (h.spec hs).1
  have hg := (host_any H hl a h hh hf).2
  have hn : a.auth.host ≠ [] := hl.ne _ _ (by have := h.host hh hf; rw [hs] at this; exact this)
  have hne : tellLogin a.auth ++ tellPlace a.auth ≠ [] := by
    intro e
    have := (List.append_eq_nil_iff.1 e).2
    unfold tellPlace at this
    split at this
    · exact hn this
    · exact hn (List.append_eq_nil_iff.1 this).1
  cases hx : tellLogin a.auth ++ tellPlace a.auth with
  | nil => exact absurd hx hne
  | cons c r =>
    rw [hx] at hg
    have := (hg c (by simp)).2.2.2.2.1
    simpa using this

theorem middle_told (hl : HostLaws H) (a : Adr) (h : Good H a) (base : Option Adr) (hb : special a.scheme = false → base = none) : readMiddle H a.scheme (tellMid a) a.query base = .ok (a.auth, a.way, a.query) := by
  unfold readMiddle
  by_cases hf : a.scheme = sFile
  · rw [if_pos hf]
    have hs : special a.scheme = true := by rw [hf]; decide
    obtain ⟨hh, ho, hne⟩ := h.spec hs
    obtain ⟨h1, h2, h3⟩ := h.file hf
    have e : tellLogin a.auth ++ tellPlace a.auth = a.auth.host := by
      unfold tellLogin tellPlace
      rw [h1, h2, h3]
      rfl
    have ha : a.auth = fileAuth a.auth.host := by
      cases ha : a.auth with
      | mk u p hs ho po => rw [ha] at h1 h2 h3 hh; simp only at h1 h2 h3 hh; subst h1; subst h2; subst h3; subst hh; rfl
    have hlaw := fileHost_laws H hl _ (h.hostF hf)
    have ew : tellWay a.way = tellSegs a.way.segs := by unfold tellWay; rw [ho]; rfl
    rw [mid_has a hh, e, ew]
    unfold readFile
    rw [if_pos (by rfl)]
    show (if isDrive (cutSlash (a.auth.host ++ tellSegs a.way.segs)).1 = true then (.ok (fileAuth [], readWay sFile [] (a.auth.host ++ tellSegs a.way.segs), a.query) : Except Int (Auth × Way × Option Bs)) else match fileHost H (cutSlash (a.auth.host ++ tellSegs a.way.segs)).1 with | none => (.error 4 : Except Int (Auth × Way × Option Bs)) | some h => (.ok (fileAuth h, readWay sFile [] (cutSlash (a.auth.host ++ tellSegs a.way.segs)).2, a.query) : Except Int (Auth × Way × Option Bs))) = _
    rw [cutSlash_segs _ _ (fun c hc => (hlaw.2 c hc).2.2.2.2.1)]
    simp only [hlaw.1, h.hostF hf]
    have hw := way_told H a h ho
    rw [hf] at hw
    rw [hw, ← ha]
    simp
  · rw [if_neg hf]
    cases hs : special a.scheme with
    | true =>
      have hh := (h.spec hs).1
      have hft := from_told H hl a h hh hf
      have hhd := place_head H hl a h hs hf
      rw [mid_has a hh]
      cases base with
      | none =>
        simp only [if_true, trim_two _ hhd, hft]
      | some b =>
        show readRelative H a.scheme _ a.query b = _
        unfold readRelative
        rw [if_pos (by rfl), if_pos hs]
        show (match fromAuth H a.scheme (trimSlashes (tellLogin a.auth ++ tellPlace a.auth ++ tellWay a.way)) with | .error e => (.error e : Except Int (Auth × Way × Option Bs)) | .ok (x, w) => (.ok (x, w, a.query) : Except Int (Auth × Way × Option Bs))) = _
        rw [noSlash_trim _ hhd, hft]
    | false =>
      rw [hb hs]
      have : readOther H a.scheme (tellMid a) = .ok (a.auth, a.way) := by
        cases hh : a.auth.has with
        | true =>
          rw [mid_has a hh]
          unfold readOther
          rw [if_pos (by rfl)]
          exact from_told H hl a h hh hf
        | false =>
          have hb := h.bare hh
          have ea : tellAuth a.auth = [] := by rw [hb]; rfl
          cases ho : a.way.opaq with
          | true =>
            obtain ⟨_, hsg, htb, hth⟩ := h.opaq ho
            have eg : guardB a = [] := by unfold guardB; rw [if_neg]; rintro ⟨_, h2, _⟩; rw [hsg] at h2; simp at h2
            have et : tellWay a.way = a.way.text := by unfold tellWay; rw [ho]; rfl
            have em : tellMid a = a.way.text := by unfold tellMid; rw [ea, eg, et]; rfl
            have he : escOpaque a.way.text = a.way.text := by
              unfold escOpaque
              rw [esc_same 0 a.way.text (fun c hc => ctl_out ⟨c.toNat, c.toNat_lt⟩ (htb c hc).1 (htb c hc).2.1)]
              have : ∀ l : Bs, (∀ c ∈ l, 33 ≤ c.toNat) → l.flatMap (fun c => if c = 32 then [37, 50, 48] else [c]) = l := by
                intro l
                induction l with
                | nil => intro _; rfl
                | cons c l ih =>
                  intro hc
                  rw [List.flatMap_cons, ih (fun x hx => hc x (by simp [hx])), if_neg]
                  · rfl
                  · rintro rfl
                    have := hc 32 (by simp)
                    exact absurd this (by decide)
              exact this _ (fun c hc => (htb c hc).1)
            rw [em]
            unfold readOther
            rw [if_neg, if_neg hth, he]
            · rw [hb]
              cases hw : a.way with
              | mk o t s => rw [hw] at ho hsg; simp only at ho hsg; subst ho; subst hsg; rfl
            · intro hp
              apply hth
              cases hx : a.way.text with
              | nil => rw [hx] at hp; cases hp
              | cons c r =>
                rw [hx] at hp
                simp [List.isPrefixOf] at hp
                rw [← hp.1]
                rfl
          | false =>
            have hne := (h.text ho).2 hh
            have ew : tellWay a.way = tellSegs a.way.segs := by unfold tellWay; rw [ho]; rfl
            have hw := way_told H a h ho
            by_cases hg : 1 < a.way.segs.length ∧ a.way.segs.head? = some []
            · have eg : guardB a = [47, 46] := by unfold guardB; rw [if_pos ⟨hh, hg.1, hg.2⟩]
              have em : tellMid a = 47 :: 46 :: tellSegs a.way.segs := by unfold tellMid; rw [ea, eg, ew]; rfl
              rw [em]
              unfold readOther
              rw [if_neg (by simp [List.isPrefixOf]), if_pos (by rfl)]
              have : readWay a.scheme [] (47 :: 46 :: tellSegs a.way.segs) = a.way := by
                have e1 := segs_way a.scheme [46] a.way.segs [] (by simp) (fun q hq c hc => ((h.seg q hq).2 c hc).2.1)
                show readWay a.scheme [] (47 :: ([46] ++ tellSegs a.way.segs)) = _
                rw [e1]
                have hn2 : a.way.segs ≠ [] := hne
                rw [segLoop_here a.scheme [46] (by decide) a.way.segs hn2 []]
                have e2 := segLoop_good a.scheme [] a.way.segs [] h.seg (fun x _ => h.drive x)
                rw [List.append_nil, List.nil_append] at e2
                rw [e2]
                have := (h.text ho).1
                cases hww : a.way with
                | mk o t s => rw [hww] at ho this; simp only at ho this; subst ho; subst this; rfl
              rw [this, hb]
            · have eg : guardB a = [] := by unfold guardB; rw [if_neg]; rintro ⟨_, h2, h3⟩; exact hg ⟨h2, h3⟩
              have em : tellMid a = tellSegs a.way.segs := by unfold tellMid; rw [ea, eg, ew]; rfl
              rw [em]
              unfold readOther
              rw [if_neg, if_pos, hw, hb]
              · rcases tellSegs_head a.way.segs with ⟨h1, _⟩ | ⟨r, hr⟩
                · exact absurd h1 hne
                · rw [hr]; rfl
              · cases hsg : a.way.segs with
                | nil => exact absurd hsg hne
                | cons p l =>
                  rw [hsg] at hg
                  cases p with
                  | nil =>
                    cases l with
                    | nil => decide
                    | cons q l => exact absurd ⟨by simp, rfl⟩ hg
                  | cons c p =>
                    have hc := ((h.seg (c :: p) (by rw [hsg]; simp)).2 c (by simp)).2.1
                    intro hp
                    simp [tellSegs, List.isPrefixOf] at hp
                    exact hc hp.symm
      simp only [Bool.false_eq_true, if_false, this]

/-- What is told is read as itself. -/
theorem read_good (hl : HostLaws H) (a : Adr) (h : Good H a) (base : Option Adr) : readAddr H (tellAddr a) base = .ok a := by
  unfold readAddr
  rw [cut_told H hl a h]
  unfold readCuts
  rw [if_pos (Good.ne H a h)]
  unfold readMarked
  rw [show evenSlashes a.scheme (tellMid a) = tellMid a from ?_]
  · rw [show a.query.map (esc (querySet a.scheme)) = a.query from opt_same _ _ h.query, middle_told H hl a h]
    · show Except.ok (⟨a.scheme, a.auth, a.way, a.query, a.frag.map (esc 1)⟩ : Adr) = _
      rw [opt_same 1 a.frag h.frag]
    · intro hs
      cases base with
      | none => rfl
      | some b =>
        show (if b.scheme = a.scheme ∧ special a.scheme = true then some b else none) = none
        rw [if_neg]
        rintro ⟨_, h2⟩
        rw [hs] at h2
        cases h2
  · cases hs : special a.scheme with
    | true => exact even_same _ _ (fun c hc => (mid_bytes H hl a h c hc).2.2.2.2 hs)
    | false => unfold evenSlashes; rw [hs]; rfl
end
end Go.Moor
