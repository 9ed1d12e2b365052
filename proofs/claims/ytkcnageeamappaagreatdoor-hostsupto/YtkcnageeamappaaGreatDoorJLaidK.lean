/-
  Plain mathematics: what Drives asks of five addresses of files is what is told of them.
-/
import Derived.Test.YtkcnageeamappaaGreatDoorJADrives
import Derived.Test.YtkcnageeamappaaGreatDoorJSPlain
import Derived.Test.YtkcnageeamappaaGreatDoorJABeside2
import Derived.Test.YtkcnageeamappaaGreatDoorJKEnv
import Derived.Deep.Strs
namespace Go.Moor
open Go

theorem parse_is {t b : Bs} {a : Adr} (ht : t.length ≤ 2000) (hb : b.length ≤ 2000) (h : readBeside hostTell t b = .ok a) {want : Bs} (hw : tellAddr a = want) : parse hostTell t b = .ok want := by
  unfold parse
  rw [if_neg (by omega), h, ← hw]
theorem parse_small {t b r : Bs} (h : parse hostTell t b = .ok r) : t.length ≤ 2000 ∧ b.length ≤ 2000 := by
  unfold parse at h
  split at h
  · cases h
  · omega
theorem alone_is {t : Bs} {a : Adr} (h : readAddr hostTell t none = .ok a) : readBeside hostTell t [] = .ok a := by
  unfold readBeside
  rw [if_pos rfl, h]
theorem beside_is {t b : Bs} {a c : Adr} (hn : b ≠ []) (hb : readAddr hostTell b none = .ok c) (h : readAddr hostTell t (some c) = .ok a) : readBeside hostTell t b = .ok a := by
  unfold readBeside
  rw [if_neg hn, hb]
  exact h
theorem tellSegs_small (k : Nat) : ∀ (l : List Bs), (∀ p ∈ l, p.length ≤ k) → (tellSegs l).length ≤ (k + 1) * l.length
  | [], _ => by simp [tellSegs]
  | p :: l, h => by
    have h1 := tellSegs_small k l (fun q hq => h q (by simp [hq]))
    have h2 := h p (by simp)
    have e : tellSegs (p :: l) = 47 :: (p ++ tellSegs l) := rfl
    rw [e]
    simp only [List.length_cons, List.length_append, Nat.mul_add]
    omega

def tThree : Bs := [102, 105, 108, 101, 58, 47, 47, 47]
def tTwo : Bs := [102, 105, 108, 101, 58, 47, 47]
def tOne : Bs := [102, 105, 108, 101, 58]
def tLocal : Bs := [102, 105, 108, 101, 58, 47, 47, 76, 79, 67, 65, 76, 72, 79, 83, 84]
def tEnd : Bs := [47, 101, 110, 100]
def tHz : Bs := [102, 105, 108, 101, 58, 47, 47, 104, 47, 122]
def tH : Bs := [102, 105, 108, 101, 58, 47, 47, 104, 47]
/-- The text of n steps up. -/
def ups (n : Nat) : Bs := tellSegs (List.replicate n [46, 46])
theorem ups_next (n : Nat) : ups (n + 1) = ups n ++ [47, 46, 46] := by
  unfold ups
  rw [List.replicate_succ', tellSegs_app]
  rfl
theorem ups_len (n : Nat) : (ups n).length = 3 * n := by
  induction n with
  | zero => rfl
  | succ n ih => rw [ups_next, List.length_append, ih]; simp; omega

section
variable (c : UInt8) (hc : greatB c) (l : List Bs) (hl : ∀ p ∈ l, wordB p ∧ p.length ≤ 4) (hl4 : l.length ≤ 4)
include hc hl hl4
theorem drive1 (n : Nat) (hn : n ≤ 6) :
    parse hostTell (tThree ++ [c] ++ [124] ++ tellSegs l ++ ups n ++ tEnd) [] = .ok (tThree ++ [c] ++ [58] ++ tellSegs (l.take (l.length - n)) ++ tEnd) := by
  have h1 := drives_a hostTell c hc l (fun p hp => (hl p hp).1) n
  have e1 : tThree ++ [c] ++ [124] ++ tellSegs l ++ ups n ++ tEnd = sFile ++ 58 :: 47 :: 47 :: 47 :: ([c, 124] ++ tellSegs (l ++ (List.replicate n [46, 46] ++ [wEnd]))) := by
    rw [tellSegs_app, tellSegs_app]
    simp [tThree, sFile, ups, tEnd, tellSegs, wEnd]
  have hs := tellSegs_small 4 l (fun p hp => (hl p hp).2)
  have hu := ups_len n
  refine parse_is ?_ (by simp) (alone_is (by rw [e1]; exact h1)) ?_
  · simp only [List.length_append, hu, tThree, tEnd, List.length_cons, List.length_nil]; omega
  · rw [tell_file]
    rw [show ([c, 58] :: (l.take (l.length - n) ++ [wEnd]) : List Bs) = [[c, 58]] ++ (l.take (l.length - n) ++ [wEnd]) from rfl, tellSegs_app, tellSegs_app]
    simp [tThree, sFile, tEnd, tellSegs, wEnd]
theorem drive2 : parse hostTell (tOne ++ [c] ++ [58] ++ tellSegs l ++ tEnd) [] = .ok (tThree ++ [c] ++ [58] ++ tellSegs l ++ tEnd) := by
  have h1 := drives_b hostTell c hc l (fun p hp => (hl p hp).1)
  have e1 : tOne ++ [c] ++ [58] ++ tellSegs l ++ tEnd = sFile ++ 58 :: ([c, 58] ++ tellSegs (l ++ [wEnd])) := by
    rw [tellSegs_app]
    simp [tOne, sFile, tEnd, tellSegs, wEnd]
  have hs := tellSegs_small 4 l (fun p hp => (hl p hp).2)
  refine parse_is ?_ (by simp) (alone_is (by rw [e1]; exact h1)) ?_
  · simp only [List.length_append, tOne, tEnd, List.length_cons, List.length_nil]; omega
  · rw [tell_file]
    rw [show ([c, 58] :: (l ++ [wEnd]) : List Bs) = [[c, 58]] ++ (l ++ [wEnd]) from rfl, tellSegs_app, tellSegs_app]
    simp [tThree, sFile, tEnd, tellSegs, wEnd]
omit hc in
theorem drive3 : parse hostTell (tLocal ++ tellSegs l ++ tEnd) [] = .ok (tTwo ++ tellSegs l ++ tEnd) := by
  have hw := calm_list l (fun p hp => (hl p hp).1)
  have h1 := read_host hostTell [76, 79, 67, 65, 76, 72, 79, 83, 84] [] (l ++ [wEnd]) (by unfold calmB; decide +kernel) (by decide) (by decide +kernel) (by decide +kernel) hw (by simp)
  have e1 : tLocal ++ tellSegs l ++ tEnd = sFile ++ 58 :: 47 :: 47 :: ([76, 79, 67, 65, 76, 72, 79, 83, 84] ++ tellSegs (l ++ [wEnd])) := by
    rw [tellSegs_app]
    simp [tLocal, sFile, tEnd, tellSegs, wEnd]
  have hs := tellSegs_small 4 l (fun p hp => (hl p hp).2)
  refine parse_is ?_ (by simp) (alone_is (by rw [e1]; exact h1)) ?_
  · simp only [List.length_append, tLocal, tEnd, List.length_cons, List.length_nil]; omega
  · rw [tell_file, tellSegs_app]
    simp [tTwo, sFile, tEnd, tellSegs, wEnd]
theorem drive4 : parse hostTell [47, 120] (tThree ++ [c] ++ [58] ++ tellSegs l ++ tEnd) = .ok (tThree ++ [c] ++ [58, 47, 120]) := by
  have h1 := read_drive hostTell c hc l (fun p hp => (hl p hp).1)
  have e1 : tThree ++ [c] ++ [58] ++ tellSegs l ++ tEnd = sFile ++ 58 :: 47 :: 47 :: 47 :: ([c, 58] ++ tellSegs (l ++ [wEnd])) := by
    rw [tellSegs_app]
    simp [tThree, sFile, tEnd, tellSegs, wEnd]
  have hs := tellSegs_small 4 l (fun p hp => (hl p hp).2)
  refine parse_is (by decide) ?_ (beside_is (by simp [tThree]) (by rw [e1]; exact h1) (drives_e hostTell c hc l)) ?_
  · simp only [List.length_append, tThree, tEnd, List.length_cons, List.length_nil]; omega
  · rw [tell_file]
    simp [tThree, sFile, tellSegs]
theorem drive5 : parse hostTell ([c] ++ [124, 47, 121]) (tHz ++ tellSegs l) = .ok (tH ++ [c] ++ [58, 47, 121]) := by
  have hw : ∀ p ∈ [122] :: l, wordB p := by
    intro p hp
    rcases List.mem_cons.1 hp with rfl | hp
    · exact ⟨by decide, by unfold smallB; decide +kernel⟩
    · exact (hl p hp).1
  have h1 := read_host hostTell [104] [104] ([122] :: l) (by unfold calmB; decide +kernel) (by decide) (by decide +kernel) (by decide +kernel) hw (by simp)
  have e1 : tHz ++ tellSegs l = sFile ++ 58 :: 47 :: 47 :: ([104] ++ tellSegs ([122] :: l)) := by
    simp [tHz, sFile, tellSegs]
  have hs := tellSegs_small 4 l (fun p hp => (hl p hp).2)
  refine parse_is (by simp) ?_ (beside_is (by simp [tHz]) (by rw [e1]; exact h1) (drives_f hostTell c hc [104] ([122] :: l))) ?_
  · simp only [List.length_append, tHz, List.length_cons, List.length_nil]; omega
  · rw [tell_file]
    simp [tH, sFile, tellSegs]
end
end Go.Moor
/-
  Plain mathematics: hosts of letters and a dot are told in small letters; what Beside asks of eight addresses is what is told of them.
-/
namespace Go.Moor
open Go

/-- A letter. -/
def letterB (c : UInt8) : Prop := smallB c ∨ greatB c
theorem great_fin (c : UInt8) (h : greatB c) : ∃ k : Fin 26, c = (65 + k.val).toUInt8 := by
  obtain ⟨h1, h2⟩ := h
  refine ⟨⟨c.toNat - 65, by omega⟩, ?_⟩
  apply UInt8.toNat_inj.1
  show c.toNat = (65 + (c.toNat - 65)) % 256
  omega
theorem small_host : ∀ k : Fin 26, badS (97 + k.val).toUInt8 = false ∧ Lib.lowerB (97 + k.val).toUInt8 = (97 + k.val).toUInt8 := by decide +kernel
theorem great_host : ∀ k : Fin 26, badS (65 + k.val).toUInt8 = false ∧ Lib.lowerB (65 + k.val).toUInt8 = (97 + k.val).toUInt8 := by decide +kernel
theorem letter_host (c : UInt8) (h : letterB c) : badS c = false ∧ smallB (Lib.lowerB c) := by
  rcases h with h | h
  · obtain ⟨k, rfl⟩ := small_fin c h
    refine ⟨(small_host k).1, ?_⟩
    rw [(small_host k).2]
    exact h
  · obtain ⟨k, rfl⟩ := great_fin c h
    refine ⟨(great_host k).1, ?_⟩
    rw [(great_host k).2]
    have hk := k.isLt
    have : (97 + k.val).toUInt8.toNat = 97 + k.val := by
      show (97 + k.val) % 256 = _
      omega
    unfold smallB
    omega
theorem letter_ne (c : UInt8) (h : letterB c) (k : Nat) (hk : k < 65 ∨ 90 < k) (hk3 : k < 97 ∨ 122 < k) (hk2 : k < 256) : c ≠ k.toUInt8 := by
  rcases h with h | h
  · exact small_ne c h k hk3 hk2
  · exact great_ne c h k hk hk2
theorem lower_small (l : Bs) (h : ∀ c ∈ l, smallB c) : Lib.toLowerA l = l := by
  unfold Lib.toLowerA
  refine (List.map_congr_left (g := id) (fun c hc => ?_)).trans (List.map_id l)
  obtain ⟨k, rfl⟩ := small_fin c (h c hc)
  exact (small_host k).2
theorem lower_app (a b : Bs) : Lib.toLowerA (a ++ b) = Lib.toLowerA a ++ Lib.toLowerA b := by unfold Lib.toLowerA; rw [List.map_append]

theorem host_known (p tail low : Bs) (hp : ∀ c ∈ p, letterB c) (ht : ∀ c ∈ tail, letterB c) (htn : low ≠ []) (hl : Lib.toLowerA tail = low) (hnum : numLabel low = false) :
    hostTell (p ++ 46 :: tail) true = some (Lib.toLowerA p ++ 46 :: low) := by
  have hb : ∀ c ∈ p ++ 46 :: tail, c = 46 ∨ letterB c := by
    intro c hc
    rcases List.mem_append.1 hc with hc | hc
    · exact Or.inr (hp c hc)
    · rcases List.mem_cons.1 hc with hc | hc
      · exact Or.inl hc
      · exact Or.inr (ht c hc)
  have h91 : ∀ c ∈ p ++ 46 :: tail, c ≠ 91 ∧ c ≠ 37 := by
    intro c hc
    rcases hb c hc with rfl | h
    · decide
    · exact ⟨letter_ne c h 91 (by omega) (by omega) (by omega), letter_ne c h 37 (by omega) (by omega) (by omega)⟩
  have hbad : (p ++ 46 :: tail).any badS = false := by
    rw [List.any_eq_false]
    intro c hc
    rcases hb c hc with rfl | h
    · decide +kernel
    · rw [(letter_host c h).1]; decide
  have hlow : Lib.toLowerA (p ++ 46 :: tail) = Lib.toLowerA p ++ 46 :: low := by
    rw [lower_app, ← hl]
    rfl
  have hls : ∀ (l : Bs), (∀ c ∈ l, letterB c) → ∀ c ∈ Lib.toLowerA l, c ≠ 46 := by
    intro l hl c hc
    unfold Lib.toLowerA at hc
    obtain ⟨x, hx, rfl⟩ := List.mem_map.1 hc
    exact small_ne _ (letter_host x (hl x hx)).2 46 (by omega) (by omega)
  have hlab : labels (Lib.toLowerA p ++ 46 :: low) = [Lib.toLowerA p, low] := by
    have e : splitOn 46 (Lib.toLowerA p ++ 46 :: low) = [Lib.toLowerA p, low] := by
      rw [splitOn_hit 46 low _ (hls p hp), splitOn_miss 46 low (by rw [← hl]; exact hls tail ht)]
    unfold labels
    rw [e, if_neg (by simp [htn])]
  have hn91 : Lib.hasPrefix (p ++ 46 :: tail) [91] = false := by
    cases p with
    | nil => rfl
    | cons x p =>
      have := (h91 x (by simp)).1
      simp [Lib.hasPrefix, List.isPrefixOf, Ne.symm this]
  unfold hostTell
  rw [hn91, if_neg (by decide), if_pos rfl, unesc_plain _ (fun c hc => (h91 c hc).2)]
  unfold hostSpecial
  rw [if_neg (by simp), hbad, if_neg (by decide), hlow, hlab]
  show (if numLabel low = true then _ else _) = _
  rw [hnum, if_neg (by decide)]

def tExample : Bs := [101, 120, 97, 109, 112, 108, 101]
theorem letter_calm (c : UInt8) (h : letterB c) : calmB c ∧ c ≠ 47 ∧ c ≠ 64 ∧ c ≠ 58 ∧ c ≠ 91 := by
  refine ⟨?_, letter_ne c h 47 (by omega) (by omega) (by omega), letter_ne c h 64 (by omega) (by omega) (by omega), letter_ne c h 58 (by omega) (by omega) (by omega), letter_ne c h 91 (by omega) (by omega) (by omega)⟩
  rcases h with h | h
  · exact small_calm c h
  · exact great_calm c h
theorem dot_calm : calmB 46 ∧ (46 : UInt8) ≠ 47 ∧ (46 : UInt8) ≠ 64 ∧ (46 : UInt8) ≠ 58 ∧ (46 : UInt8) ≠ 91 := by unfold calmB; decide
theorem hostOk_known (p low : Bs) (hp : ∀ c ∈ p, smallB c) (ht : ∀ c ∈ low, smallB c) (htn : low ≠ []) (hnum : numLabel low = false) : HostOk hostTell (p ++ 46 :: low) := by
  refine ⟨by simp, ?_, ?_⟩
  · intro c hc
    rcases List.mem_append.1 hc with hc | hc
    · exact letter_calm c (Or.inl (hp c hc))
    · rcases List.mem_cons.1 hc with rfl | hc
      · exact dot_calm
      · exact letter_calm c (Or.inl (ht c hc))
  · have := host_known p low low (fun c hc => Or.inl (hp c hc)) (fun c hc => Or.inl (ht c hc)) htn (lower_small low ht) hnum
    rw [this, lower_small p hp]
theorem hostOk_example (p : Bs) (hp : wordB p) : HostOk hostTell (p ++ 46 :: tExample) := hostOk_known p tExample hp.2 (by unfold smallB; decide +kernel) (by decide) (by decide +kernel)
theorem hostOk_other : HostOk hostTell wOther := by
  refine ⟨by decide, ?_, by decide +kernel⟩
  unfold calmB
  decide +kernel

def wLeaf : Bs := [108, 101, 97, 102]
def sep3 : Bs := [58, 47, 47]
def tQf : Bs := [63, 113, 35, 102]
theorem five_len : ∀ s ∈ five, s.length ≤ 5 := by decide +kernel
theorem words_leaf (l : List Bs) (x : Bs) (hl : ∀ p ∈ l, wordB p ∧ p.length ≤ 4) (hx : wordB x) : ∀ p ∈ l ++ [x], wordB p := by
  intro p hp
  rcases List.mem_append.1 hp with hp | hp
  · exact (hl p hp).1
  · simp at hp; subst hp; exact hx
theorem wLeaf_word : wordB wLeaf := ⟨by decide, by unfold smallB; decide +kernel⟩
/-- What Beside puts its addresses together of. -/
structure BesideIs (s h : Bs) (l d : List Bs) : Prop where
  hs : s ∈ five
  hh : HostOk hostTell h
  hhl : h.length ≤ 20
  hl : ∀ p ∈ l, wordB p ∧ p.length ≤ 4
  hl6 : l.length ≤ 6
  hd : ∀ p ∈ d, wordB p ∧ p.length ≤ 4
  hd4 : d.length ≤ 4
section
variable {s h : Bs} {l d : List Bs} (B : BesideIs s h l d)
include B
def besideBase (s h : Bs) (l : List Bs) : Bs := s ++ sep3 ++ h ++ tellSegs (l ++ [wLeaf]) ++ tQf
theorem leaf_len : (tellSegs (l ++ [wLeaf])).length ≤ 35 := by
  have := tellSegs_small 4 l (fun p hp => (B.hl p hp).2)
  have := B.hl6
  rw [tellSegs_app, List.length_append]
  show _ + 5 ≤ 35
  omega
theorem end_len : (tellSegs (d ++ [wEnd])).length ≤ 24 := by
  have := tellSegs_small 4 d (fun p hp => (B.hd p hp).2)
  have := B.hd4
  rw [tellSegs_app, List.length_append]
  show _ + 4 ≤ 24
  omega
theorem base_len : (besideBase s h l).length ≤ 100 := by
  have h1 := leaf_len B
  have h2 := five_len s B.hs
  have h3 := B.hhl
  unfold besideBase
  simp only [List.length_append, sep3, tQf, List.length_cons, List.length_nil]
  omega
theorem base_read : readAddr hostTell (besideBase s h l) none = .ok (baseAddr s h (l ++ [wLeaf])) := by
  have h1 := read_base hostTell s h (l ++ [wLeaf]) B.hs B.hh (words_leaf l wLeaf B.hl wLeaf_word) (by simp)
  rw [← h1]
  unfold besideBase baseTxt
  congr 1
  simp [sep3, tQf, tellOpt]
omit B in
theorem base_ne : besideBase s h l ≠ [] := by unfold besideBase; simp [tQf]
theorem beside_parse {t want : Bs} {a : Adr} (ht : t.length ≤ 200) (hr : readAddr hostTell t (some (baseAddr s h (l ++ [wLeaf]))) = .ok a) (hw : tellAddr a = want) : parse hostTell t (besideBase s h l) = .ok want :=
  parse_is (by omega) (by have := base_len B; omega) (beside_is base_ne (base_read B) hr) hw
theorem endWords : ∀ p ∈ d ++ [wEnd], wordB p := words_leaf d wEnd B.hd wEnd_word
theorem bes1 (n : Nat) (hn : n ≤ 7) : parse hostTell (upsTxt n ++ (tellSegs (d ++ [wEnd])).drop 1) (besideBase s h l) = .ok (s ++ sep3 ++ h ++ tellSegs (l.take (l.length - n)) ++ tellSegs (d ++ [wEnd])) := by
  refine beside_parse B ?_ (beside_a hostTell s h l (d ++ [wEnd]) B.hs (endWords B) (by simp) n wLeaf) ?_
  · have h1 := upTxt_len n
    have h2 := end_len B
    simp only [List.length_append, List.length_drop]
    omega
  · rw [tell_plain, tellSegs_app (l.take _)]
    simp [sep3, tellOpt]
theorem bes2 : parse hostTell (tellSegs (d ++ [wEnd]) ++ [47, 46]) (besideBase s h l) = .ok (s ++ sep3 ++ h ++ tellSegs (d ++ [wEnd]) ++ [47]) := by
  refine beside_parse B ?_ (beside_b hostTell s h (l ++ [wLeaf]) (d ++ [wEnd]) B.hs (endWords B) (by simp)) ?_
  · have h2 := end_len B
    simp only [List.length_append, List.length_cons, List.length_nil]
    omega
  · rw [tell_plain, tellSegs_app (d ++ [wEnd])]
    simp [sep3, tellOpt, tellSegs]
theorem bes3 : parse hostTell ([47, 47, 111, 116, 104, 101, 114] ++ tellSegs (d ++ [wEnd])) (besideBase s h l) = .ok (s ++ [58, 47, 47, 111, 116, 104, 101, 114] ++ tellSegs (d ++ [wEnd])) := by
  refine beside_parse B ?_ (beside_c hostTell s h (l ++ [wLeaf]) (d ++ [wEnd]) B.hs hostOk_other (endWords B) (by simp)) ?_
  · have h2 := end_len B
    simp only [List.length_append, List.length_cons, List.length_nil]
    omega
  · rw [tell_plain]
    simp [wOther, tellOpt]
theorem bes4 : parse hostTell [63, 110, 101, 119, 32, 120] (besideBase s h l) = .ok (s ++ sep3 ++ h ++ tellSegs (l ++ [wLeaf]) ++ [63, 110, 101, 119, 37, 50, 48, 120]) := by
  refine beside_parse B (by decide) (beside_e hostTell s h (l ++ [wLeaf]) B.hs) ?_
  rw [tell_plain]
  simp [sep3, tellOpt, wNewE]
theorem bes5 : parse hostTell [35, 110, 101, 119, 32, 120] (besideBase s h l) = .ok (s ++ sep3 ++ h ++ tellSegs (l ++ [wLeaf]) ++ [63, 113, 35, 110, 101, 119, 37, 50, 48, 120]) := by
  refine beside_parse B (by decide) (beside_f hostTell s h (l ++ [wLeaf]) B.hs) ?_
  rw [tell_plain]
  simp [sep3, tellOpt, wNewE]
theorem bes6 : parse hostTell [] (besideBase s h l) = .ok (s ++ sep3 ++ h ++ tellSegs (l ++ [wLeaf]) ++ [63, 113]) := by
  refine beside_parse B (by decide) (beside_g hostTell s h (l ++ [wLeaf]) B.hs) ?_
  rw [tell_plain]
  simp [sep3, tellOpt]
theorem bes7 : parse hostTell [46, 46] (besideBase s h l) = .ok (s ++ sep3 ++ h ++ tellSegs ((l ++ [wLeaf]).take (l.length - 1)) ++ [47]) := by
  refine beside_parse B (by decide) (beside_h hostTell s h l wLeaf B.hs) ?_
  rw [tell_plain, tellSegs_app, List.take_append_of_le_length (by omega), ← List.dropLast_eq_take]
  simp [sep3, tellOpt, tellSegs]
theorem bes8 : parse hostTell (s ++ [58] ++ tellSegs (d ++ [wEnd])) (besideBase s h l) = .ok (s ++ sep3 ++ h ++ tellSegs (d ++ [wEnd])) := by
  have h1 := beside_i hostTell s h (l ++ [wLeaf]) (d ++ [wEnd]) B.hs (endWords B) (by simp)
  rw [show s ++ 58 :: tellSegs (d ++ [wEnd]) = s ++ [58] ++ tellSegs (d ++ [wEnd]) by simp] at h1
  refine beside_parse B ?_ h1 ?_
  · have h2 := end_len B
    have h3 := five_len s B.hs
    simp only [List.length_append, List.length_cons, List.length_nil]
    omega
  · rw [tell_plain]
    simp [sep3, tellOpt]
end
end Go.Moor
/-
  What a row's list gives of a package-level row of texts.
-/
namespace Go.Proofs.YtkcnageeamappaaGreatDoor
open Go.ChangeShapes Go.WideShapes Go.ChangeAt Go.RowKit Go.Moor

theorem cellsStr : Tryz.prog.cellsOf 9 = 1 := by kernel_rfl
theorem txt_of_reads {W : World} {name : String} {g : Nat} {l : List Bs} (hg : Tryz.prog.globalNamed name = some g) (ht : (Tryz.prog.globals[g]?).map (·.type) = some 28)
    (h : Lib.VarReads Tryz.prog W name (.slice (l.map fun x => .lit (.string x)) [])) (hl : l ≠ []) : TxtRow g l W := by
  obtain ⟨g', t', cs, fuel, p, hg', ht', hvar, hd⟩ := h
  obtain rfl := Option.some.inj (hg.symm.trans hg')
  obtain rfl := Option.some.inj (ht.symm.trans ht')
  rcases Go.Deep.open_strs Tryz.underlying28 Tryz.underlying9 cellsStr hd with ⟨_, hx⟩ | ⟨a, len, cap, m, Sx, hcs, _, hlc, _, hm, hx, hcell⟩
  · cases hx
  · simp only [Prod.mk.injEq, DataW.slice.injEq] at hx
    obtain ⟨⟨hx1, hx2⟩, _⟩ := hx
    have hlen : len = l.length := by
      have := congrArg List.length hx1
      simpa using this.symm
    have hml : len ≤ m := by rw [hm]; split <;> omega
    have hS : ∀ (j : Nat) x, l[j]? = some x → Sx j = ⟨x.toArray⟩ := by
      intro j x hj
      have hjl : j < len := by rw [hlen]; exact (List.getElem?_eq_some_iff.1 hj).1
      have h2 := congrArg (·[j]?) hx1
      simp [hj, hjl] at h2
      apply ByteArray.ext
      rw [h2]
    have hpos : 0 < len := by rw [hlen]; exact List.length_pos_iff.2 hl
    refine ⟨a, cap, ?_, by omega, ?_, fun j x hj => ?_⟩
    · rw [World.var?_cell hg hvar 0, ← Array.getElem?_toList, hcs, hlen]
      rfl
    · have := cell_in (hcell 0 (by omega)).1
      rwa [block_add] at this
    · have hjl : j < len := by rw [hlen]; exact (List.getElem?_eq_some_iff.1 hj).1
      rw [(hcell j (by omega)).1, hS j x hj]
theorem laid_schemes : (Rows.laid_moor_moorkeep_schemes : DataW Unit) = .slice (five.map fun x => .lit (.string x)) [] := by kernel_rfl
theorem schemes_of_reads {W : World} (h : Lib.VarReads Tryz.prog W "moor/moorkeep.schemes" Rows.laid_moor_moorkeep_schemes) : TxtRow 0 five W := by
  rw [laid_schemes] at h
  exact txt_of_reads (by kernel_rfl) (by kernel_rfl) h (by decide)
end Go.Proofs.YtkcnageeamappaaGreatDoor
