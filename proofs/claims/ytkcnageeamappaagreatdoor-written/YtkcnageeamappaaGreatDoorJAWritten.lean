/-
  Plain mathematics on addresses that are written in many ways: capitals, blanks and line ends, backslashes, slashes too many or none, its own port, dots that go nowhere, what must be escaped.
-/
import Derived.Test.YtkcnageeamappaaGreatDoorJABeside2
namespace Go.Moor
open Go

-- blanks and line ends
theorem drop_blank (p : UInt8 → Bool) (a b : Bs) (ha : ∀ c ∈ a, p c = true) : (a ++ b).dropWhile p = b.dropWhile p := by
  rw [List.dropWhile_append_of_pos ha]
theorem drop_core (p : UInt8 → Bool) (a b : Bs) (ha : ∀ c ∈ a, p c = false) (hn : a ≠ []) : (a ++ b).dropWhile p = a ++ b := by
  cases a with
  | nil => exact absurd rfl hn
  | cons c a => rw [List.cons_append, List.dropWhile_cons_of_neg (by simp [ha c (by simp)])]
theorem blank_core (c : UInt8) (h : 33 ≤ c.toNat) : blankB c = false := by unfold blankB; simp; omega
theorem filter_core (l : Bs) (h : ∀ c ∈ l, 33 ≤ c.toNat) : l.filter (fun c => !breakB c) = l := by
  rw [List.filter_eq_self]
  intro c hc
  have := h c hc
  have e : ∀ k : Nat, k < 33 → c ≠ k.toUInt8 := by
    intro k hk e
    rw [e] at this
    have : (k.toUInt8).toNat = k := by rw [show k.toUInt8.toNat = k % 256 from rfl]; omega
    omega
  have e9 : c ≠ 9 := e 9 (by omega)
  have e10 : c ≠ 10 := e 10 (by omega)
  have e13 : c ≠ 13 := e 13 (by omega)
  simp [breakB, e9, e10, e13]
theorem trimB_core (a b c : Bs) (ha : ∀ x ∈ a, blankB x = true) (hb : ∀ x ∈ c, blankB x = true) (hf : ∀ x, b.head? = some x → blankB x = false) (hl : ∀ x, b.getLast? = some x → blankB x = false) : trimB blankB (a ++ (b ++ c)) = b := by
  unfold trimB
  rw [drop_blank _ a _ ha]
  cases hb0 : b with
  | nil =>
    have e : c.dropWhile blankB = [] := by
      have := List.dropWhile_append_of_pos (p := blankB) (l₁ := c) (l₂ := []) hb
      simpa using this
    show ((([] ++ c).dropWhile blankB).reverse.dropWhile blankB).reverse = []
    rw [List.nil_append, e]
    rfl
  | cons x r =>
    rw [hb0] at hf hl
    have h1 : ((x :: r) ++ c).dropWhile blankB = (x :: r) ++ c := by
      rw [List.cons_append, List.dropWhile_cons_of_neg (by simp [hf x rfl])]
    rw [h1, List.reverse_append, drop_blank _ c.reverse _ (fun y hy => hb y (by simpa using hy))]
    have h2 : (x :: r).reverse.dropWhile blankB = (x :: r).reverse := by
      cases hr : (x :: r).reverse with
      | nil => rfl
      | cons y ys =>
        have : (x :: r).getLast? = some y := by
          rw [← List.head?_reverse, hr]
          rfl
        rw [List.dropWhile_cons_of_neg (by simp [hl y this])]
    rw [h2, List.reverse_reverse]
/-- Two blanks ahead, a line's end somewhere behind them, a blank at the end. -/
theorem strip_written (a b : Bs) (ha : ∀ c ∈ a, 33 ≤ c.toNat) (hb : ∀ c ∈ b, 33 ≤ c.toNat) : stripB ([32, 32] ++ (a ++ ([10, 9, 13] ++ (b ++ [32])))) = a ++ b := by
  have hab : ∀ c ∈ a ++ b, 33 ≤ c.toNat := by
    intro c hc
    rcases List.mem_append.1 hc with hc | hc
    · exact ha c hc
    · exact hb c hc
  have hd : ∀ (l : Bs), (∀ c ∈ l, 33 ≤ c.toNat) → ∀ x, l.head? = some x → blankB x = false := fun l h x hx => blank_core x (h x (List.mem_of_head? hx))
  have hlt : ∀ (l : Bs), (∀ c ∈ l, 33 ≤ c.toNat) → ∀ x, l.getLast? = some x → blankB x = false := fun l h x hx => blank_core x (h x (List.mem_of_getLast? hx))
  unfold stripB
  by_cases h1 : a = []
  · have e : [32, 32] ++ (a ++ ([10, 9, 13] ++ (b ++ [32]))) = [32, 32, 10, 9, 13] ++ (b ++ [32]) := by rw [h1]; simp
    rw [e, trimB_core _ b [32] (by decide) (by decide) (hd b hb) (hlt b hb), filter_core b hb, h1]
    rfl
  · by_cases h2 : b = []
    · have e : [32, 32] ++ (a ++ ([10, 9, 13] ++ (b ++ [32]))) = [32, 32] ++ (a ++ [10, 9, 13, 32]) := by rw [h2]; simp
      rw [e, trimB_core _ a _ (by decide) (by decide) (hd a ha) (hlt a ha), filter_core a ha, h2, List.append_nil]
    · have e : [32, 32] ++ (a ++ ([10, 9, 13] ++ (b ++ [32]))) = [32, 32] ++ ((a ++ ([10, 9, 13] ++ b)) ++ [32]) := by simp
      rw [e, trimB_core _ (a ++ ([10, 9, 13] ++ b)) [32] (by decide) (by decide) (by
        intro x hx
        cases a with
        | nil => exact absurd rfl h1
        | cons y r => exact hd (y :: r) ha x (by simpa using hx)) (by
        intro x hx
        refine hlt b hb x ?_
        rw [List.getLast?_append, List.getLast?_append] at hx
        cases hbl : b.getLast? with
        | none => rw [List.getLast?_eq_none_iff] at hbl; exact absurd hbl h2
        | some y => rw [hbl] at hx; simpa using hx), List.filter_append, List.filter_append, filter_core a ha, filter_core b hb]
      simp [breakB]

-- slashes, a host, its port, a path
def slashTxt : Nat → Bs
  | 0 => []
  | 1 => [47]
  | 2 => [47, 47]
  | 3 => [92]
  | 4 => [92, 47]
  | _ => [47, 47, 47, 47, 92]
def sepTxt : Nat → Bs
  | 0 => [47]
  | 1 => [92]
  | 2 => [47, 46, 47]
  | _ => [47, 120, 47, 46, 46, 47]
def sepSegs : Nat → List Bs
  | 0 => []
  | 1 => []
  | 2 => [[46]]
  | _ => [[120], [46, 46]]
/-- The path as it is written: each word behind its separator. -/
def writtenTxt (l : List (Nat × Bs)) : Bs := l.flatMap fun y => sepTxt y.1 ++ y.2
def writtenSegs (l : List (Nat × Bs)) : List Bs := l.flatMap fun y => sepSegs y.1 ++ [y.2]
theorem slash_even (k : Nat) : ∀ c ∈ (slashTxt k).map evenB, c = 47 := by
  match k with
  | 0 => decide
  | 1 => decide
  | 2 => decide
  | 3 => decide
  | 4 => decide
  | k + 5 => show ∀ c ∈ ([47, 47, 47, 47, 92] : Bs).map evenB, c = 47; decide
theorem sep_even (k : Nat) (p : Bs) (hp : ∀ c ∈ p, c ≠ 92) : (sepTxt k ++ p).map evenB = tellSegs (sepSegs k ++ [p]) := by
  rw [List.map_append, even_id p hp, tellSegs_app]
  match k with
  | 0 => simp [sepTxt, sepSegs, tellSegs, evenB]
  | 1 => simp [sepTxt, sepSegs, tellSegs, evenB]
  | 2 => simp [sepTxt, sepSegs, tellSegs, evenB]
  | k + 3 => simp [sepTxt, sepSegs, tellSegs, evenB]
theorem written_even (l : List (Nat × Bs)) (h : ∀ y ∈ l, wordB y.2) : (writtenTxt l).map evenB = tellSegs (writtenSegs l) := by
  induction l with
  | nil => rfl
  | cons y l ih =>
    have e1 : writtenTxt (y :: l) = (sepTxt y.1 ++ y.2) ++ writtenTxt l := rfl
    have e2 : writtenSegs (y :: l) = (sepSegs y.1 ++ [y.2]) ++ writtenSegs l := rfl
    rw [e1, e2, List.map_append, tellSegs_app, ih (fun z hz => h z (by simp [hz])), sep_even _ _ (fun c hc => (word_calm _ (h y (by simp)) c hc).2.2.2)]
theorem sep_loop (s : Bs) (hs : s ≠ sFile) (k : Nat) (p : Bs) (hp : wordB p) (segs r : List Bs) : segLoop s segs ((sepSegs k ++ [p]) ++ r) = segLoop s (segs ++ [p]) r := by
  have hx : wordB [120] := ⟨by decide, by unfold smallB; decide +kernel⟩
  have one : ∀ segs : List Bs, segLoop s segs (p :: r) = segLoop s (segs ++ [p]) r := fun segs => segLoop_stays s r [p] segs (by intro q hq; simp at hq; subst hq; exact stays_word s q hp)
  match k with
  | 0 => exact one segs
  | 1 => exact one segs
  | 2 =>
    show segLoop s segs ([46] :: p :: r) = _
    rw [segLoop_here s _ (by decide +kernel) _ (by simp), one]
  | k + 3 =>
    show segLoop s segs ([[120]] ++ ([46, 46] :: p :: r)) = _
    rw [segLoop_stays s _ [[120]] segs (by intro q hq; simp at hq; subst hq; exact stays_word s _ hx), segLoop_up s _ (by decide +kernel) _ (by simp), withoutLast_plain s hs, List.dropLast_concat, one]
theorem written_loop (s : Bs) (hs : s ≠ sFile) : ∀ (l : List (Nat × Bs)) (segs : List Bs), (∀ y ∈ l, wordB y.2) → segLoop s segs (writtenSegs l) = segs ++ l.map (·.2)
  | [], segs, _ => by
    show segLoop s segs [] = segs ++ []
    rw [List.append_nil]
    rfl
  | y :: l, segs, h => by
    have e2 : writtenSegs (y :: l) = (sepSegs y.1 ++ [y.2]) ++ writtenSegs l := rfl
    rw [e2, sep_loop s hs _ _ (h y (by simp)), written_loop s hs l _ (fun z hz => h z (by simp [hz]))]
    simp
theorem written_slash (l : List (Nat × Bs)) (h : ∀ y ∈ l, wordB y.2) : ∀ p ∈ writtenSegs l, ∀ c ∈ p, c ≠ 47 := by
  intro p hp
  obtain ⟨y, hy, hm⟩ := List.mem_flatMap.1 hp
  rcases List.mem_append.1 hm with hm | hm
  · revert hm
    match y.1 with
    | 0 => intro hm; simp [sepSegs] at hm
    | 1 => intro hm; simp [sepSegs] at hm
    | 2 => intro hm; simp [sepSegs] at hm; subst hm; decide
    | k + 3 => intro hm; simp [sepSegs] at hm; rcases hm with rfl | rfl <;> decide
  · simp at hm
    subst hm
    exact word_slash _ (h y hy)
theorem trimSlashes_lead (a b : Bs) (ha : ∀ c ∈ a, c = 47) (hb : b.head? ≠ some 47) : trimSlashes (a ++ b) = b := by
  unfold trimSlashes
  rw [List.dropWhile_append_of_pos (by simpa using ha)]
  exact noSlash_trim b hb

section
variable (H : Bs → Bool → Option Bs)

/-- A login, a host, a port. -/
theorem readAuth_port (s big h pt : Bs) (n : Int) (hs : special s = true) (hne : big ≠ []) (hb : ∀ c ∈ big, c ≠ 64 ∧ c ≠ 58 ∧ c ≠ 91) (hp : ∀ c ∈ pt, c ≠ 64) (hh : H big true = some h) (hr : readPort pt s = some n) :
    readAuth H (big ++ 58 :: pt) s = .ok ⟨[], [], true, h, n⟩ := by
  have e1 : cutLogin (big ++ 58 :: pt) = ([], big ++ 58 :: pt) := by
    unfold cutLogin cutLast
    rw [cutB_none 64 _ (by
      intro c hc
      simp only [List.mem_reverse, List.mem_append, List.mem_cons] at hc
      rcases hc with hc | rfl | hc
      · exact (hb c hc).1
      · decide
      · exact hp c hc)]
    rfl
  have e2 : brackets (big ++ 58 :: pt) = 0 := by
    unfold brackets
    rw [if_neg]
    match big, hne, hb with
    | c :: r, _, hb =>
      have := (hb c (by simp)).2.2
      simpa using this
  have e3 : cutPort (big ++ 58 :: pt) = (big, pt) := by
    unfold cutPort
    rw [e2]
    show (match cutB 58 (big ++ 58 :: pt) with | some (a, b) => ([] ++ a, b) | none => (big ++ 58 :: pt, [])) = _
    rw [cutB_some 58 pt big (fun c hc => (hb c hc).2.1)]
    rfl
  have e4 : tellHost H big (big ++ 58 :: pt) s = some h := by
    unfold tellHost
    rw [if_neg (fun x => hne x.1), hs, hh]
  unfold readAuth
  rw [e1]
  show (match tellHost H (cutPort (big ++ 58 :: pt)).1 (big ++ 58 :: pt) s with | none => (Except.error 4 : Except Int Auth) | some x => match readPort (cutPort (big ++ 58 :: pt)).2 s with | none => (Except.error 5 : Except Int Auth) | some p => (.ok ⟨esc 5 (cutOpt 58 []).1, esc 5 ((cutOpt 58 []).2.getD []), true, x, p⟩ : Except Int Auth)) = _
  rw [e3, e4]
  show (match readPort pt s with | none => (Except.error 5 : Except Int Auth) | some p => _) = _
  rw [hr]
  rfl

/-- The first text: its path is told plain, one slash if there is none. -/
theorem written_a (s big h pt : Bs) (k : Nat) (l : List (Nat × Bs)) (hs : s ∈ five) (hne : big ≠ []) (hb : ∀ c ∈ big, calmB c ∧ c ≠ 47 ∧ c ≠ 64 ∧ c ≠ 58 ∧ c ≠ 91) (hpt : ∀ c ∈ pt, calmB c ∧ c ≠ 47 ∧ c ≠ 64) (hh : H big true = some h) (hr : readPort pt s = some (-1)) (hl : ∀ y ∈ l, wordB y.2)
    (a b : Bs) (hab : a ++ b = s ++ 58 :: (slashTxt k ++ (big ++ 58 :: (pt ++ writtenTxt l)))) :
    readAddr H ([32, 32] ++ (a ++ ([10, 9, 13] ++ (b ++ [32])))) none = .ok ⟨s, plainAuth h, ⟨false, [], if l = [] then [[]] else l.map (·.2)⟩, none, none⟩ := by
  obtain ⟨f1, f2, f3, f4, f5, f6⟩ := five_ok s hs
  have hsl : ∀ c ∈ slashTxt k, 33 ≤ c.toNat ∧ c ≠ 35 ∧ c ≠ 63 := by
    match k with
    | 0 => decide
    | 1 => decide
    | 2 => decide
    | 3 => decide
    | 4 => decide
    | k + 5 => show ∀ c ∈ ([47, 47, 47, 47, 92] : Bs), 33 ≤ c.toNat ∧ c ≠ 35 ∧ c ≠ 63; decide
  have hsep : ∀ j : Nat, ∀ c ∈ sepTxt j, 33 ≤ c.toNat ∧ c ≠ 35 ∧ c ≠ 63 := by
    intro j
    match j with
    | 0 => decide
    | 1 => decide
    | 2 => decide
    | j + 3 => show ∀ c ∈ ([47, 120, 47, 46, 46, 47] : Bs), 33 ≤ c.toNat ∧ c ≠ 35 ∧ c ≠ 63; decide
  have hm : ∀ c ∈ slashTxt k ++ (big ++ 58 :: (pt ++ writtenTxt l)), 33 ≤ c.toNat ∧ c ≠ 35 ∧ c ≠ 63 := by
    intro c hc
    simp only [List.mem_append, List.mem_cons] at hc
    rcases hc with hc | hc | rfl | hc | hc
    · exact hsl c hc
    · exact ⟨(hb c hc).1.1, (hb c hc).1.2.1, (hb c hc).1.2.2.1⟩
    · decide
    · exact ⟨(hpt c hc).1.1, (hpt c hc).1.2.1, (hpt c hc).1.2.2.1⟩
    · obtain ⟨y, hy, hx⟩ := List.mem_flatMap.1 hc
      rcases List.mem_append.1 hx with hx | hx
      · exact hsep y.1 c hx
      · exact ⟨(word_calm _ (hl y hy) c hx).1, (word_calm _ (hl y hy) c hx).2.1, (word_calm _ (hl y hy) c hx).2.2.1⟩
  have h33 : ∀ c ∈ a ++ b, 33 ≤ c.toNat := by
    rw [hab]
    intro c hx
    rcases List.mem_append.1 hx with hx | hx
    · exact (f6 c hx).2
    · rcases List.mem_cons.1 hx with rfl | hx
      · decide
      · exact (hm c hx).1
  unfold readAddr
  rw [strip_written a b (fun c hc => h33 c (by simp [hc])) (fun c hc => h33 c (by simp [hc])), hab]
  have := cutMarks_named s (slashTxt k ++ (big ++ 58 :: (pt ++ writtenTxt l))) none none f4 f5 (fun c hx => (f6 c hx).1) (fun c hx => (hm c hx).2) (fun _ h => by cases h)
  rw [show (slashTxt k ++ (big ++ 58 :: (pt ++ writtenTxt l))) ++ (tellOpt 63 none ++ tellOpt 35 none) = slashTxt k ++ (big ++ 58 :: (pt ++ writtenTxt l)) by simp [tellOpt]] at this
  rw [this]
  unfold readCuts
  rw [if_pos f3]
  show readMarked H s (slashTxt k ++ (big ++ 58 :: (pt ++ writtenTxt l))) none none none = _
  unfold readMarked
  have em : evenSlashes s (slashTxt k ++ (big ++ 58 :: (pt ++ writtenTxt l))) = (slashTxt k).map evenB ++ ((big ++ 58 :: pt) ++ tellSegs (writtenSegs l)) := by
    rw [even_map s _ f1, List.map_append, List.map_append, List.map_cons, List.map_append, even_id big (fun c hc => (hb c hc).1.2.2.2), even_id pt (fun c hc => (hpt c hc).1.2.2.2), written_even l hl]
    simp [evenB]
  rw [em]
  unfold readMiddle
  rw [if_neg f2]
  show (match (match (if special s = true then fromAuth H s (trimSlashes ((slashTxt k).map evenB ++ ((big ++ 58 :: pt) ++ tellSegs (writtenSegs l)))) else _) with | .error e => (.error e : Except Int (Auth × Way × Option Bs)) | .ok (a, w) => .ok (a, w, none)) with | .error e => (.error e : Except Int Adr) | .ok (a, w, q2) => .ok ⟨s, a, w, q2, none⟩) = _
  rw [if_pos f1, trimSlashes_lead _ _ (slash_even k) (by
    match big, hne, hb with
    | c :: r, _, hb =>
      have := (hb c (by simp)).2.1
      simpa using this)]
  have hns : ∀ c ∈ big ++ 58 :: pt, c ≠ 47 := by
    intro c hc
    simp only [List.mem_append, List.mem_cons] at hc
    rcases hc with hc | rfl | hc
    · exact (hb c hc).2.1
    · decide
    · exact (hpt c hc).2.1
  have ra := readAuth_port H s big h pt (-1) f1 hne (fun c hc => (hb c hc).2.2) (fun c hc => (hpt c hc).2.2) hh hr
  have ef : fromAuth H s ((big ++ 58 :: pt) ++ tellSegs (writtenSegs l)) = .ok (plainAuth h, ⟨false, [], if l = [] then [[]] else l.map (·.2)⟩) := by
    unfold fromAuth
    cases hw : writtenSegs l with
    | nil =>
      have hl0 : l = [] := by
        cases l with
        | nil => rfl
        | cons y l => simp [writtenSegs] at hw
      show (match readAuth H (cutSlash ((big ++ 58 :: pt) ++ [])).1 s with | .error e => (Except.error e : Except Int (Auth × Way)) | .ok a => .ok (a, readWay s [] (cutSlash ((big ++ 58 :: pt) ++ [])).2)) = _
      rw [List.append_nil, cutSlash_none _ hns, ra, if_pos hl0]
      show Except.ok (plainAuth h, readWay s [] []) = _
      have : readWay s [] [] = ⟨false, [], [[]]⟩ := by
        unfold readWay readSegs
        rw [if_neg (by simp [f1]), show splitOn 47 (trimSlash []) = [[]] by decide +kernel, segLoop, if_pos (by decide +kernel)]
        show (⟨false, [], segLoop s [tellSeg s [] true] []⟩ : Way) = _
        have : tellSeg s [] true = [] := by
          unfold tellSeg
          rw [if_neg (by simp [isDrive])]
          rfl
        rw [this]
        rfl
      rw [this]
    | cons p ps =>
      have hln : l ≠ [] := by
        intro h0
        rw [h0] at hw
        simp [writtenSegs] at hw
      have hps := written_slash l hl
      rw [hw] at hps
      show (match readAuth H (cutSlash ((big ++ 58 :: pt) ++ 47 :: (p ++ tellSegs ps))).1 s with | .error e => (Except.error e : Except Int (Auth × Way)) | .ok a => .ok (a, readWay s [] (cutSlash ((big ++ 58 :: pt) ++ 47 :: (p ++ tellSegs ps))).2)) = _
      rw [cutSlash_at _ _ hns, ra, if_neg hln]
      show Except.ok (plainAuth h, readWay s [] (47 :: (p ++ tellSegs ps))) = _
      rw [segs_way s p ps [] (hps p (by simp)) (fun q hq => hps q (by simp [hq])), ← hw, written_loop s f2 l [] hl]
      rfl
  rw [ef]
end
end Go.Moor
