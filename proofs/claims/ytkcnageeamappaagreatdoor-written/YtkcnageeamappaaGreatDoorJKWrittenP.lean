/-
  Plain mathematics: what Written asks of six texts is what is told of them, or their error.
-/
import Derived.Test.YtkcnageeamappaaGreatDoorJAWritten2
import Derived.Test.YtkcnageeamappaaGreatDoorJLaidK
namespace Go.Moor
open Go

/-- A small letter at an even place is written great. -/
def capAt (i : Nat) (c : UInt8) : UInt8 := if i % 2 = 0 ∧ 97 ≤ c.toNat then c - 32 else c
def bigOf : Nat → Bs → Bs
  | _, [] => []
  | i, c :: l => capAt i c :: bigOf (i + 1) l
theorem bigOf_app : ∀ (a b : Bs) (i : Nat), bigOf i (a ++ b) = bigOf i a ++ bigOf (i + a.length) b
  | [], b, i => by simp [bigOf]
  | c :: a, b, i => by
    simp only [List.cons_append, bigOf, List.length_cons]
    rw [bigOf_app a b (i + 1), show i + 1 + a.length = i + (a.length + 1) by omega]
theorem bigOf_next (h : Bs) (q : Nat) (c : UInt8) (hq : h[q]? = some c) : bigOf 0 (h.take (q + 1)) = bigOf 0 (h.take q) ++ [capAt q c] := by
  have hl := (List.getElem?_eq_some_iff.1 hq).1
  rw [List.take_add_one, hq, bigOf_app, List.length_take, Nat.min_eq_left (by omega), Nat.zero_add]
  rfl
theorem bigOf_len : ∀ (l : Bs) (i : Nat), (bigOf i l).length = l.length
  | [], _ => rfl
  | c :: l, i => by simp [bigOf, bigOf_len l (i + 1)]
theorem cap_fin : ∀ k : Fin 26, greatB ((97 + k.val).toUInt8 - 32) ∧ Lib.lowerB ((97 + k.val).toUInt8 - 32) = (97 + k.val).toUInt8 := by unfold greatB; decide +kernel
theorem cap_small (i : Nat) (c : UInt8) (h : smallB c) : letterB (capAt i c) ∧ Lib.lowerB (capAt i c) = c := by
  obtain ⟨k, rfl⟩ := small_fin c h
  unfold capAt
  split
  · exact ⟨Or.inr (cap_fin k).1, (cap_fin k).2⟩
  · exact ⟨Or.inl h, (small_host k).2⟩
theorem bigOf_small : ∀ (l : Bs) (i : Nat), (∀ c ∈ l, smallB c) → (∀ c ∈ bigOf i l, letterB c) ∧ Lib.toLowerA (bigOf i l) = l
  | [], i, _ => ⟨by simp [bigOf], rfl⟩
  | c :: l, i, h => by
    obtain ⟨h1, h2⟩ := bigOf_small l (i + 1) (fun x hx => h x (by simp [hx]))
    obtain ⟨h3, h4⟩ := cap_small i c (h c (by simp))
    refine ⟨?_, ?_⟩
    · intro x hx
      rcases List.mem_cons.1 hx with rfl | hx
      · exact h3
      · exact h1 x hx
    · show Lib.lowerB (capAt i c) :: Lib.toLowerA (bigOf (i + 1) l) = _
      rw [h4, h2]
def tNet : Bs := [110, 101, 116]
theorem tNet_small : ∀ c ∈ tNet, smallB c := by unfold smallB; decide +kernel
theorem big_form (p : Bs) : bigOf 0 (p ++ 46 :: tNet) = bigOf 0 p ++ 46 :: bigOf (p.length + 1) tNet := by
  rw [bigOf_app, Nat.zero_add]
  show bigOf 0 p ++ capAt p.length 46 :: bigOf (p.length + 1) tNet = _
  rw [show capAt p.length 46 = 46 from if_neg (fun h => absurd h.2 (by decide))]
theorem big_host (p : Bs) (hp : wordB p) : hostTell (bigOf 0 (p ++ 46 :: tNet)) true = some (p ++ 46 :: tNet) := by
  obtain ⟨h1, h2⟩ := bigOf_small p 0 hp.2
  obtain ⟨h3, h4⟩ := bigOf_small tNet (p.length + 1) tNet_small
  rw [big_form, host_known _ _ tNet h1 h3 (by decide) h4 (by decide +kernel), h2]
theorem big_bytes (p : Bs) (hp : wordB p) : ∀ c ∈ bigOf 0 (p ++ 46 :: tNet), calmB c ∧ c ≠ 47 ∧ c ≠ 64 ∧ c ≠ 58 ∧ c ≠ 91 := by
  obtain ⟨h1, h2⟩ := bigOf_small p 0 hp.2
  obtain ⟨h3, h4⟩ := bigOf_small tNet (p.length + 1) tNet_small
  rw [big_form]
  intro c hc
  rcases List.mem_append.1 hc with hc | hc
  · exact letter_calm c (h1 c hc)
  · rcases List.mem_cons.1 hc with rfl | hc
    · exact dot_calm
    · exact letter_calm c (h3 c hc)
theorem hostOk_net (p : Bs) (hp : wordB p) : HostOk hostTell (p ++ 46 :: tNet) := hostOk_known p tNet hp.2 tNet_small (by decide) (by decide +kernel)

/-- The ports of the five schemes, as texts. -/
def fivePorts : List Bs := [[56, 48], [52, 52, 51], [56, 48], [52, 52, 51], [50, 49]]
theorem ports_ok : ∀ k : Fin 5, ∀ s pt, five[k.val]? = some s → fivePorts[k.val]? = some pt → readPort pt s = some (-1) ∧ (∀ c ∈ pt, isDigit c = true) ∧ pt.length ≤ 3 ∧ (decAcc 0 pt : Int) = (ownPort s).1 ∧ (Lib.decDigits (ownPort s).1.toNat = pt) := by
  intro k
  match k with
  | 0 => intro s pt h1 h2; cases h1; cases h2; decide +kernel
  | 1 => intro s pt h1 h2; cases h1; cases h2; decide +kernel
  | 2 => intro s pt h1 h2; cases h1; cases h2; decide +kernel
  | 3 => intro s pt h1 h2; cases h1; cases h2; decide +kernel
  | 4 => intro s pt h1 h2; cases h1; cases h2; decide +kernel

theorem sep_len (k : Nat) : (sepTxt k).length ≤ 6 := by
  unfold sepTxt
  split <;> decide
theorem slash_len (k : Nat) : (slashTxt k).length ≤ 5 := by
  unfold slashTxt
  split <;> decide
theorem written_len : ∀ (l : List (Nat × Bs)), (∀ y ∈ l, y.2.length ≤ 4) → (writtenTxt l).length ≤ 10 * l.length
  | [], _ => by simp [writtenTxt]
  | y :: l, h => by
    have h1 := written_len l (fun z hz => h z (by simp [hz]))
    have h2 := h y (by simp)
    have h3 := sep_len y.1
    have e : writtenTxt (y :: l) = (sepTxt y.1 ++ y.2) ++ writtenTxt l := rfl
    rw [e]
    simp only [List.length_append, List.length_cons]
    omega

theorem dec_short (P : Nat) (h : P < 1000000) : (Lib.decDigits P).length ≤ 6 := by
  rw [← digs_dec 5 P (by omega)]
  exact digs_len 10 5 P
theorem parse_no {t : Bs} {e : Int} (ht : t.length ≤ 2000) (h : readAddr hostTell t none = .error e) : parse hostTell t [] = .error e := by
  unfold parse readBeside
  rw [if_neg (by simp; omega), if_pos rfl, h]

section
variable (s p pt : Bs) (kk : Fin 5) (hs : five[kk.val]? = some s) (hpt : fivePorts[kk.val]? = some pt) (hp : wordB p) (hp4 : p.length ≤ 4)
include hs hpt hp hp4
/-- The first text, before the line ends are put into it. -/
def wrText (s p pt : Bs) (j : Nat) (l : List (Nat × Bs)) : Bs := [32, 32] ++ s ++ [58] ++ slashTxt j ++ bigOf 0 (p ++ 46 :: tNet) ++ [58] ++ pt ++ writtenTxt l
def wrWant (s p : Bs) (l : List (Nat × Bs)) : Bs := s ++ sep3 ++ (p ++ 46 :: tNet) ++ tellSegs (l.map (·.2)) ++ (if l = [] then [47] else [])
theorem wr1 (j : Nat) (l : List (Nat × Bs)) (hl : ∀ y ∈ l, wordB y.2 ∧ y.2.length ≤ 4) (hl5 : l.length ≤ 5) (at' : Nat) (h2 : 2 ≤ at') (h3 : at' ≤ (wrText s p pt j l).length) :
    parse hostTell ((wrText s p pt j l).take at' ++ [10, 9, 13] ++ (wrText s p pt j l).drop at' ++ [32]) [] = .ok (wrWant s p l) := by
  have hsm : s ∈ five := List.mem_of_getElem? hs
  obtain ⟨k1, k2, k3, k4, k5⟩ := ports_ok kk s pt hs hpt
  obtain ⟨a, ha⟩ : ∃ a, a = s ++ 58 :: (slashTxt j ++ (bigOf 0 (p ++ 46 :: tNet) ++ 58 :: (pt ++ writtenTxt l))) := ⟨_, rfl⟩
  have e : wrText s p pt j l = [32, 32] ++ a := by
    rw [ha]
    simp [wrText]
  have e1 : (wrText s p pt j l).take at' ++ [10, 9, 13] ++ (wrText s p pt j l).drop at' ++ [32] = [32, 32] ++ (a.take (at' - 2) ++ ([10, 9, 13] ++ (a.drop (at' - 2) ++ [32]))) := by
    rw [e]
    obtain ⟨n, rfl⟩ : ∃ n, at' = n + 2 := ⟨at' - 2, by omega⟩
    simp
  have hlen : (wrText s p pt j l).length ≤ 200 := by
    have h1 := five_len s hsm
    have h4 := slash_len j
    have h5 := written_len l (fun y hy => (hl y hy).2)
    unfold wrText
    simp only [List.length_append, List.length_cons, List.length_nil, bigOf_len, tNet]
    omega
  rw [e1]
  refine parse_is ?_ (by simp) (alone_is (written_a hostTell s (bigOf 0 (p ++ 46 :: tNet)) (p ++ 46 :: tNet) pt j l hsm ?_ (big_bytes p hp) ?_ (big_host p hp) k1 (fun y hy => (hl y hy).1) (a.take (at' - 2)) (a.drop (at' - 2)) ?_)) ?_
  · have := congrArg List.length e1
    simp only [List.length_append, List.length_take, List.length_drop, List.length_cons, List.length_nil] at this ⊢
    omega
  · rw [big_form]; simp
  · exact fun c hc => digit_calm c (k2 c hc)
  · rw [List.take_append_drop, ha]
  · rw [tell_plain]
    unfold wrWant
    by_cases hn : l = []
    · subst hn
      simp [sep3, tellOpt, tellSegs]
    · rw [if_neg hn, if_neg hn]
      simp [sep3, tellOpt]
omit hp hp4 in
theorem wr_port (P : Nat) : toldPort s P = if Lib.decDigits P = pt then -1 else (P : Int) := by
  obtain ⟨k1, k2, k3, k4, k5⟩ := ports_ok kk s pt hs hpt
  unfold toldPort
  by_cases h : Lib.decDigits P = pt
  · rw [if_pos h, if_pos]
    rw [← k4, ← h, (dec_all P).2.1]
  · rw [if_neg h, if_neg]
    intro h2
    apply h
    rw [← k5, ← h2]
    rfl
def wrMark (pt : Bs) (P : Nat) : Bs := if Lib.decDigits P = pt then [] else 58 :: Lib.decDigits P
def tLogin : Bs := [58, 47, 47, 117, 59, 118, 58, 112, 64, 113, 64]
def tLoginE : Bs := [58, 47, 47, 117, 37, 51, 66, 118, 58, 112, 37, 52, 48, 113, 64]
def tAsk : Bs := [63, 97, 39, 98, 34, 99, 35, 100, 96, 101]
def tAskE : Bs := [47, 63, 97, 37, 50, 55, 98, 37, 50, 50, 99, 35, 100, 37, 54, 48, 101]
theorem wr2 (P : Nat) (hP : P ≤ 65535) : parse hostTell (s ++ tLogin ++ (p ++ 46 :: tNet) ++ [58] ++ [48, 48, 48] ++ Lib.decDigits P ++ tAsk) [] = .ok (s ++ tLoginE ++ (p ++ 46 :: tNet) ++ wrMark pt P ++ tAskE) := by
  have hsm : s ∈ five := List.mem_of_getElem? hs
  have h1 := written_b hostTell s (p ++ 46 :: tNet) P hsm (hostOk_net p hp) hP
  have e : s ++ tLogin ++ (p ++ 46 :: tNet) ++ [58] ++ [48, 48, 48] ++ Lib.decDigits P ++ tAsk = s ++ 58 :: ((47 :: 47 :: (wLogin ++ 64 :: ((p ++ 46 :: tNet) ++ 58 :: ([48, 48, 48] ++ Lib.decDigits P)))) ++ (tellOpt 63 (some qTxt) ++ tellOpt 35 (some fTxt))) := by
    simp [tLogin, wLogin, tAsk, tellOpt, qTxt, fTxt]
  refine parse_is ?_ (by simp) (alone_is (by rw [e]; exact h1)) ?_
  · have h1 := five_len s hsm
    have h2 := dec_short P (by omega)
    simp only [List.length_append, List.length_cons, List.length_nil, tLogin, tNet, tAsk]
    omega
  · rw [wr_port s pt kk hs hpt P]
    unfold wrMark
    by_cases h : Lib.decDigits P = pt
    · rw [if_pos h, if_pos h]
      simp [tellAddr, tellAuth, tellLogin, tellPlace, guardB, tellWay, tellSegs, tellOpt, wUser, wPass, tLoginE, tAskE]
    · rw [if_neg h, if_neg h]
      have hne : ¬ ((P : Int) = -1) := by omega
      simp [tellAddr, tellAuth, tellLogin, tellPlace, guardB, tellWay, tellSegs, tellOpt, wUser, wPass, tLoginE, tAskE, hne, decB]
omit hpt in
theorem wr3 (P : Nat) (hP : P ≤ 65535) : parse hostTell (s ++ sep3 ++ (p ++ 46 :: tNet) ++ [58] ++ Lib.decDigits (65536 + P)) [] = .error 5 := by
  have hsm : s ∈ five := List.mem_of_getElem? hs
  have h1 := written_c hostTell s (p ++ 46 :: tNet) (65536 + P) hsm (hostOk_net p hp) (by omega)
  have e : s ++ sep3 ++ (p ++ 46 :: tNet) ++ [58] ++ Lib.decDigits (65536 + P) = s ++ 58 :: 47 :: 47 :: ((p ++ 46 :: tNet) ++ 58 :: Lib.decDigits (65536 + P)) := by simp [sep3]
  refine parse_no ?_ (by rw [e]; exact h1)
  have h1 := five_len s hsm
  have h2 := dec_short (65536 + P) (by omega)
  simp only [List.length_append, List.length_cons, List.length_nil, sep3, tNet]
  omega
omit hpt hp hp4 in
theorem wr4 : parse hostTell (s ++ sep3) [] = .error 4 := by
  have hsm : s ∈ five := List.mem_of_getElem? hs
  have h1 := five_len s hsm
  exact parse_no (by simp only [List.length_append, sep3, List.length_cons, List.length_nil]; omega) (written_d hostTell s hsm (by decide +kernel))
omit hpt hp hp4 in
theorem wr5 : parse hostTell (s ++ [58, 47, 47, 117, 64]) [] = .error 4 := by
  have hsm : s ∈ five := List.mem_of_getElem? hs
  have h1 := five_len s hsm
  exact parse_no (by simp only [List.length_append, List.length_cons, List.length_nil]; omega) (written_e hostTell s hsm)
omit hs hpt in
theorem wr6 : parse hostTell ([120, 58] ++ (p ++ 46 :: tNet) ++ [32, 121, 127]) [] = .ok ([120, 58] ++ (p ++ 46 :: tNet) ++ [37, 50, 48, 121, 37, 55, 70]) := by
  have hb : ∀ c ∈ p ++ 46 :: tNet, calmB c ∧ c.toNat ≤ 126 ∧ c ≠ 47 := by
    intro c hc
    have hk := ((hostOk_net p hp).bytes c hc)
    refine ⟨hk.1, ?_, hk.2.1⟩
    rcases List.mem_append.1 hc with hc | hc
    · have := (hp.2 c hc).2; omega
    · rcases List.mem_cons.1 hc with rfl | hc
      · decide
      · have := (tNet_small c hc).2; omega
  have h1 := written_f hostTell (p ++ 46 :: tNet) (by simp) hb
  have e : [120, 58] ++ (p ++ 46 :: tNet) ++ [32, 121, 127] = 120 :: 58 :: ((p ++ 46 :: tNet) ++ [32, 121, 127]) := by simp
  refine parse_is ?_ (by simp) (alone_is (by rw [e]; exact h1)) ?_
  · simp only [List.length_append, List.length_cons, List.length_nil, tNet]
    omega
  · simp [tellAddr, tellAuth, noAuth, guardB, tellWay, tellOpt]
end
end Go.Moor
