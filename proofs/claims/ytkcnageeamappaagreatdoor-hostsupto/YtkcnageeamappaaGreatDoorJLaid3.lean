/-
  Plain mathematics for what is told of eight pieces: two colons stand beside one another at most once; where they do not, no two noughts stand beside one another; no great letter.
-/
import Derived.Test.YtkcnageeamappaaGreatDoorJSxDots
import Derived.Test.YtkcnageeamappaaGreatDoorJGBack
import Derived.Test.YtkcnageeamappaaGreatDoorJLaidK
import Derived.Test.YtkcnageeamappaaGreatDoorJAPlain
import Derived.Test.YtkcnageeamappaaGreatDoorJAMarked
import Derived.Test.YtkcnageeamappaaGreatDoorJAFile2
import Derived.Test.YtkcnageeamappaaGreatDoorJKEnv
namespace Go.Moor
open Go

/-- How often two colons stand beside one another. -/
def ccCount : List UInt8 → Nat
  | [] => 0
  | a :: l => (if (a == 58 && l.head? == some 58) = true then 1 else 0) + ccCount l
theorem ccCount_none : ∀ l : List UInt8, hasCC l = false → ccCount l = 0
  | [], _ => rfl
  | a :: l, h => by
    rw [hasCC, Bool.or_eq_false_iff] at h
    rw [ccCount, h.1, ccCount_none l h.2]
    rfl
theorem ccCount_one (r : List UInt8) (hr : hasCC (58 :: r) = false) : ∀ p : List UInt8, hasCC (p ++ [58]) = false → ccCount (p ++ 58 :: 58 :: r) = 1
  | [], _ => by
    show ccCount (58 :: 58 :: r) = 1
    rw [ccCount, ccCount_none _ hr]
    rfl
  | a :: q, h => by
    rw [List.cons_append, hasCC, Bool.or_eq_false_iff] at h
    show ccCount (a :: (q ++ 58 :: 58 :: r)) = 1
    rw [ccCount, head_app, h.1, ccCount_one r hr q h.2]
    rfl

theorem noughts_ge : ∀ (ps : List Nat) (i row s l : Nat), l ≤ (noughts ps i row s l).2
  | [], _, _, _, _ => Nat.le_refl _
  | p :: ps, i, row, s, l => by
    unfold noughts
    split
    · exact noughts_ge ps _ _ _ _
    · split
      · rename_i h
        exact Nat.le_trans (Nat.le_of_lt h) (noughts_ge ps _ _ _ _)
      · exact noughts_ge ps _ _ _ _
theorem noughts_next (ps : List Nat) (i row s l : Nat) : row + 1 ≤ (noughts (0 :: ps) i row s l).2 := by
  unfold noughts
  rw [if_neg (by simp)]
  split
  · exact noughts_ge ps _ _ _ _
  · rename_i h
    exact Nat.le_trans (by omega) (noughts_ge ps (i + 1) (row + 1) s l)
theorem noughts_two (b : List Nat) : ∀ (a : List Nat) (i row s l : Nat), 2 ≤ (noughts (a ++ 0 :: 0 :: b) i row s l).2
  | [], i, row, s, l => by
    show 2 ≤ (noughts (0 :: 0 :: b) i row s l).2
    rw [noughts, if_neg (by simp)]
    split
    · exact Nat.le_trans (by omega) (noughts_next b (i + 1) (row + 1) _ _)
    · exact Nat.le_trans (by omega) (noughts_next b (i + 1) (row + 1) _ _)
  | p :: a, i, row, s, l => by
    show 2 ≤ (noughts (p :: (a ++ 0 :: 0 :: b)) i row s l).2
    rw [noughts]
    split
    · exact noughts_two b a _ _ _ _
    · split
      · exact noughts_two b a _ _ _ _
      · exact noughts_two b a _ _ _ _
theorem no_two (ns : List Nat) (h : (noughts ns 0 0 0 0).2 < 2) (i : Nat) (h0 : ns[i]? = some 0) (h1 : ns[i + 1]? = some 0) : False := by
  obtain ⟨a0, e0⟩ := List.getElem?_eq_some_iff.1 h0
  obtain ⟨a1, e1⟩ := List.getElem?_eq_some_iff.1 h1
  have e : ns = ns.take i ++ 0 :: 0 :: ns.drop (i + 2) := by
    conv => lhs; rw [← List.take_append_drop i ns, List.drop_eq_getElem_cons a0, List.drop_eq_getElem_cons a1, e0, e1]
  have := noughts_two (ns.drop (i + 2)) (ns.take i) 0 0 0 0
  rw [← e] at this
  omega

theorem row_plain (ns : List Nat) (hn : ∀ n ∈ ns, n < 65536) : ∀ x ∈ (toldRow ns).map (·.1), plainTxt x := by
  intro x hx
  obtain ⟨z, hz, rfl⟩ := List.mem_map.1 hx
  exact (toldRow_reads ns hn z hz).1

/-- What is told, in its brackets. -/
def sixWant (ns : List Nat) : List UInt8 := [91] ++ (sixTell ns ++ [93])

theorem cc_colon (ns : List Nat) (hn : ∀ n ∈ ns, n < 65536) : hasCC (58 :: (tellRow ns ++ [93])) = false := by
  rw [hasCC, Bool.or_eq_false_iff]
  rw [tellRow_C]
  refine ⟨?_, cc_joinC [93] (by decide) _ (row_plain ns hn)⟩
  rw [Bool.and_eq_false_iff]
  right
  rw [beq_eq_false_iff_ne]
  cases ns with
  | nil => decide
  | cons n l => exact joinC_head _ (by simp [toldRow]) (row_plain _ hn) [93]

theorem want_short (ns : List Nat) (hn : ∀ n ∈ ns, n < 65536) : ccCount (sixWant ns) = if (noughts ns 0 0 0 0).2 < 2 then 0 else 1 := by
  unfold sixWant sixTell
  split
  · refine ccCount_none _ ?_
    rw [tellRow_C]
    exact cc_app _ (cc_joinC [93] (by decide) _ (row_plain ns hn)) [91] (by decide)
  · have h1 : ∀ n ∈ ns.take (noughts ns 0 0 0 0).1, n < 65536 := fun n hm => hn n (List.mem_of_mem_take hm)
    have h2 : ∀ n ∈ ns.drop ((noughts ns 0 0 0 0).1 + (noughts ns 0 0 0 0).2), n < 65536 := fun n hm => hn n (List.mem_of_mem_drop hm)
    have := ccCount_one (tellRow (ns.drop ((noughts ns 0 0 0 0).1 + (noughts ns 0 0 0 0).2)) ++ [93]) (cc_colon _ h2) ([91] ++ tellRow (ns.take (noughts ns 0 0 0 0).1)) (by
      rw [List.append_assoc, tellRow_C]
      exact cc_app _ (cc_joinC [58] (by decide) _ (row_plain _ h1)) [91] (by decide))
    rw [← this]
    congr 1
    simp

theorem hexL_small : ∀ d : Fin 16, (hexL d.val).toNat < 65 ∨ 70 < (hexL d.val).toNat := by decide +kernel
theorem joinC_mem : ∀ (ls : List (List UInt8)) (c : UInt8), c ∈ joinC ls → c = 58 ∨ ∃ x ∈ ls, c ∈ x
  | [], c, h => by simp [joinC] at h
  | [x], c, h => Or.inr ⟨x, by simp, h⟩
  | x :: y :: l, c, h => by
    rw [joinC] at h
    rcases List.mem_append.1 h with h | h
    · exact Or.inr ⟨x, by simp, h⟩
    · rcases List.mem_cons.1 h with h | h
      · exact Or.inl h
      · rcases joinC_mem (y :: l) c h with h | ⟨z, hz, hc⟩
        · exact Or.inl h
        · exact Or.inr ⟨z, by simp at hz ⊢; exact Or.inr hz, hc⟩
theorem row_small (ns : List Nat) (hn : ∀ n ∈ ns, n < 65536) (c : UInt8) (hc : c ∈ tellRow ns) : c.toNat < 65 ∨ 70 < c.toNat := by
  rw [tellRow_C] at hc
  rcases joinC_mem _ c hc with rfl | ⟨x, hx, hcx⟩
  · decide
  · rw [toldRow_fst] at hx
    obtain ⟨n, hm, rfl⟩ := List.mem_map.1 hx
    obtain ⟨d, hd, rfl⟩ := digs_mem 16 (by omega) 3 n (hn n hm) c hcx
    exact hexL_small ⟨d, hd⟩
theorem want_small (ns : List Nat) (hn : ∀ n ∈ ns, n < 65536) (c : UInt8) (hc : c ∈ sixWant ns) : c.toNat < 65 ∨ 70 < c.toNat := by
  unfold sixWant sixTell at hc
  split at hc
  · simp at hc
    rcases hc with rfl | hc | rfl
    · decide
    · exact row_small ns hn c hc
    · decide
  · simp at hc
    rcases hc with rfl | hc | rfl | hc | rfl
    · decide
    · exact row_small _ (fun n hm => hn n (List.mem_of_mem_take hm)) c hc
    · decide
    · exact row_small _ (fun n hm => hn n (List.mem_of_mem_drop hm)) c hc
    · decide
end Go.Moor
/-
  Plain mathematics for eight pieces in full, a nought ahead of the short ones at even places.
-/
namespace Go.Moor
open Go

def wholeTxt (i n : Nat) : List UInt8 := if (digsF 16 3 n).length < 4 ∧ i % 2 = 0 then 48 :: digsF 16 3 n else digsF 16 3 n
def wholeRow (ns : List Nat) : List (List UInt8 × Nat) := ns.zipIdx.map fun y => (wholeTxt y.2 y.1, y.1)
theorem whole_reads (ns : List Nat) (hn : ∀ n ∈ ns, n < 65536) : readsAs (wholeRow ns) := by
  intro y hy
  obtain ⟨z, hz, rfl⟩ := List.mem_map.1 hy
  have hm : z.1 ∈ ns := List.fst_mem_of_mem_zipIdx hz
  show plainTxt (wholeTxt z.2 z.1) ∧ sixPiece (wholeTxt z.2 z.1) = some (z.1 : Int) ∧ ¬ 0 ≤ Lib.indexByte (wholeTxt z.2 z.1) 46
  unfold wholeTxt
  split
  · rename_i h
    exact piece_reads0 z.1 (hn z.1 hm) h.1
  · exact piece_reads z.1 (hn z.1 hm)
theorem wholeRow_snd (ns : List Nat) : ((wholeRow ns).map fun y => (y.2 : Int)) = ns.map fun n : Nat => (n : Int) := by
  unfold wholeRow
  rw [List.map_map]
  show ns.zipIdx.map ((fun n : Nat => (n : Int)) ∘ Prod.fst) = _
  rw [← List.map_map, List.zipIdx_map_fst]
theorem sixOf_wholeRow (ns : List Nat) (h8 : ns.length = 8) (hn : ∀ n ∈ ns, n < 65536) : sixOf (joinC ((wholeRow ns).map (·.1))) = some (ns.map fun n : Nat => (n : Int)) := by
  rw [sixOf_full _ (whole_reads ns hn) (by simp [wholeRow, h8]), wholeRow_snd]

/-- The four hosts that are made of eight pieces, behind their bracket: each is told in one way. -/
theorem want_whole (ns : List Nat) (h8 : ns.length = 8) (hn : ∀ n ∈ ns, n < 65536) : bracketed (joinC ((wholeRow ns).map (·.1)) ++ [93]) = some (sixWant ns) := bracketed_of _ ns (sixOf_wholeRow ns h8 hn)
theorem want_gap (ns : List Nat) (s l : Nat) (h8 : ns.length = 8) (hn : ∀ n ∈ ns, n < 65536) (hl : s + l ≤ 8) (hl1 : 1 ≤ l) (h : ∀ j, s ≤ j → j < s + l → ns[j]? = some 0) :
    bracketed ((tellRow (ns.take s) ++ 58 :: 58 :: tellRow (ns.drop (s + l))) ++ [93]) = some (sixWant ns) := bracketed_of _ ns (sixOf_gap ns s l h8 hn hl hl1 h)
theorem want_dots (ns : List Nat) (n : Nat) (h6 : ns.length = 6) (hs : ∀ k ∈ ns, k < 65536) (hn : n < 4294967296) :
    bracketed (joinC (ns.map pieceTxt ++ [tell4 n]) ++ [93]) = some (sixWant (ns ++ [n / 65536, n % 65536])) := bracketed_of _ _ (sixOf_dots ns n h6 hs hn)
theorem want_told (ns : List Nat) (h8 : ns.length = 8) (hn : ∀ n ∈ ns, n < 65536) : bracketed ((sixWant ns).drop 1) = some (sixWant ns) := bracketed_of _ ns (sixOf_told ns h8 hn)
end Go.Moor
/-
  Plain mathematics: what is told of hosts is told again as itself; what bytes stand in it; hosts with brackets in the wrong place are none.
-/
namespace Go.Moor
open Go

-- bytes
theorem badS_fin : ∀ c : Fin 256, badS c.val.toUInt8 = false → 33 ≤ c.val ∧ c.val ≤ 126 ∧ c.val ≠ 35 ∧ c.val ≠ 47 ∧ c.val ≠ 63 ∧ c.val ≠ 64 ∧ c.val ≠ 92 ∧ c.val ≠ 124 ∧ c.val ≠ 58 ∧ c.val ≠ 91 ∧ c.val ≠ 37 ∧ badS (Lib.lowerB c.val.toUInt8) = false := by decide +kernel
theorem badS_out (c : UInt8) (h : badS c = false) : (33 ≤ c.toNat ∧ c.toNat ≤ 126 ∧ c ≠ 35 ∧ c ≠ 47 ∧ c ≠ 63 ∧ c ≠ 64 ∧ c ≠ 92 ∧ c ≠ 124) ∧ c ≠ 58 ∧ c ≠ 91 ∧ c ≠ 37 ∧ badS (Lib.lowerB c) = false := by
  have := badS_fin ⟨c.toNat, c.toNat_lt⟩ (by simpa using h)
  obtain ⟨h1, h2, h3, h4, h5, h6, h7, h8, h9, h10, h11, h12⟩ := this
  exact ⟨⟨h1, h2, ne_toNat c 35 h3 (by omega), ne_toNat c 47 h4 (by omega), ne_toNat c 63 h5 (by omega), ne_toNat c 64 h6 (by omega), ne_toNat c 92 h7 (by omega), ne_toNat c 124 h8 (by omega)⟩, ne_toNat c 58 h9 (by omega), ne_toNat c 91 h10 (by omega), ne_toNat c 37 h11 (by omega), by simpa using h12⟩
theorem badP_fin : ∀ c : Fin 256, badP c.val.toUInt8 = false → holdsB 0 c.val = false → 33 ≤ c.val ∧ c.val ≤ 126 ∧ c.val ≠ 35 ∧ c.val ≠ 47 ∧ c.val ≠ 63 ∧ c.val ≠ 64 ∧ c.val ≠ 92 ∧ c.val ≠ 124 ∧ c.val ≠ 58 ∧ c.val ≠ 91 := by decide +kernel
theorem badP_out (c : UInt8) (h : badP c = false) (h0 : holdsB 0 c.toNat = false) : (33 ≤ c.toNat ∧ c.toNat ≤ 126 ∧ c ≠ 35 ∧ c ≠ 47 ∧ c ≠ 63 ∧ c ≠ 64 ∧ c ≠ 92 ∧ c ≠ 124) ∧ c ≠ 58 ∧ c ≠ 91 := by
  have := badP_fin ⟨c.toNat, c.toNat_lt⟩ (by simpa using h) h0
  obtain ⟨h1, h2, h3, h4, h5, h6, h7, h8, h9, h10⟩ := this
  exact ⟨⟨h1, h2, ne_toNat c 35 h3 (by omega), ne_toNat c 47 h4 (by omega), ne_toNat c 63 h5 (by omega), ne_toNat c 64 h6 (by omega), ne_toNat c 92 h7 (by omega), ne_toNat c 124 h8 (by omega)⟩, ne_toNat c 58 h9 (by omega), ne_toNat c 91 h10 (by omega)⟩
theorem capP : ∀ k : Fin 16, badP (hexCap k.val) = false ∧ holdsB 0 (hexCap k.val).toNat = false := by decide +kernel
theorem pctP : badP 37 = false ∧ holdsB 0 (37 : UInt8).toNat = false := by decide +kernel
theorem hexL_out : ∀ d : Fin 16, (33 ≤ (hexL d.val).toNat ∧ (hexL d.val).toNat ≤ 126 ∧ hexL d.val ≠ 35 ∧ hexL d.val ≠ 47 ∧ hexL d.val ≠ 63 ∧ hexL d.val ≠ 64 ∧ hexL d.val ≠ 92 ∧ hexL d.val ≠ 124) ∧ hexL d.val ≠ 93 := by decide +kernel
theorem okT_out_fin : ∀ c : Fin 256, okT c.val.toUInt8 = true → 33 ≤ c.val ∧ c.val ≤ 126 ∧ c.val ≠ 35 ∧ c.val ≠ 47 ∧ c.val ≠ 63 ∧ c.val ≠ 64 ∧ c.val ≠ 92 ∧ c.val ≠ 124 ∧ c.val ≠ 58 ∧ c.val ≠ 91 := by decide +kernel
theorem okT_out (c : UInt8) (h : okT c = true) : (33 ≤ c.toNat ∧ c.toNat ≤ 126 ∧ c ≠ 35 ∧ c ≠ 47 ∧ c ≠ 63 ∧ c ≠ 64 ∧ c ≠ 92 ∧ c ≠ 124) ∧ c ≠ 58 ∧ c ≠ 91 := by
  have := okT_out_fin ⟨c.toNat, c.toNat_lt⟩ (by simpa using h)
  obtain ⟨h1, h2, h3, h4, h5, h6, h7, h8, h9, h10⟩ := this
  exact ⟨⟨h1, h2, ne_toNat c 35 h3 (by omega), ne_toNat c 47 h4 (by omega), ne_toNat c 63 h5 (by omega), ne_toNat c 64 h6 (by omega), ne_toNat c 92 h7 (by omega), ne_toNat c 124 h8 (by omega)⟩, ne_toNat c 58 h9 (by omega), ne_toNat c 91 h10 (by omega)⟩

-- an IP4, told
theorem numTxt_dec (n : Nat) (hn : n < 256) : numTxt 2 n = Lib.decDigits n := by
  have h : (256 : Nat) ≤ 10 ^ (31 + 1) := by decide
  exact digs_dec 31 n (Nat.lt_of_lt_of_le hn h)
theorem tell4_dots (n : Nat) (hn : n < 4294967296) : tell4 n = joinDots [numTxt 2 (n / 16777216), numTxt 2 (n / 65536 % 256), numTxt 2 (n / 256 % 256), numTxt 2 (n % 256)] := by
  unfold tell4
  rw [join_D]
  have e0 : byte4 n 0 = n / 16777216 := by unfold byte4; omega
  have e1 : byte4 n 1 = n / 65536 % 256 := by unfold byte4; omega
  have e2 : byte4 n 2 = n / 256 % 256 := by unfold byte4; omega
  have e3 : byte4 n 3 = n % 256 := by unfold byte4; omega
  rw [e0, e1, e2, e3, numTxt_dec _ (by omega), numTxt_dec _ (by omega), numTxt_dec _ (by omega), numTxt_dec _ (by omega)]
theorem tell4_bytes (n : Nat) (hn : n < 4294967296) : tell4 n ≠ [] ∧ ∀ c ∈ tell4 n, c = 46 ∨ okT c = true := by
  rw [tell4_dots n hn]
  refine ⟨joinDots_ne _ (by simp) ?_, fun c hc => ?_⟩
  · intro x hx
    simp only [List.mem_cons, List.not_mem_nil, or_false] at hx
    rcases hx with rfl | rfl | rfl | rfl <;> exact num_ne _ _ (by omega)
  · rcases joinDots_mem _ c hc with h | ⟨x, hx, hcx⟩
    · exact Or.inl h
    · right
      simp only [List.mem_cons, List.not_mem_nil, or_false] at hx
      rcases hx with rfl | rfl | rfl | rfl <;> exact num_ok _ _ (by omega) c hcx
theorem tell4_host (n : Nat) (hn : n < 4294967296) : hostSpecial (unesc (tell4 n)) = some (tell4 n) := by
  conv => lhs; rw [tell4_dots n hn]
  exact four_labels 2 2 2 2 n hn

theorem no91 (l : Bs) (h : ∀ c ∈ l, c ≠ 91) : Lib.hasPrefix l [91] = false := nopfx l h
theorem pfx91 (l : Bs) : Lib.hasPrefix l [91] = true ↔ l.head? = some 91 := by
  cases l with
  | nil => simp [Lib.hasPrefix]
  | cons c l =>
    simp [Lib.hasPrefix, List.isPrefixOf]
    exact ⟨fun h => h.symm, fun h => h.symm⟩

theorem sixTell_bytes (ns : List Nat) (hn : ∀ n ∈ ns, n < 65536) : ∀ c ∈ sixTell ns, c = 58 ∨ ∃ d : Fin 16, c = hexL d.val := by
  have hrow : ∀ ms : List Nat, (∀ n ∈ ms, n < 65536) → ∀ c ∈ tellRow ms, c = 58 ∨ ∃ d : Fin 16, c = hexL d.val := by
    intro ms hm c hc
    rw [tellRow_C] at hc
    rcases joinC_mem _ c hc with h | ⟨x, hx, hcx⟩
    · exact Or.inl h
    · right
      rw [toldRow_fst] at hx
      obtain ⟨n, hn2, rfl⟩ := List.mem_map.1 hx
      obtain ⟨d, hd, rfl⟩ := digs_mem 16 (by omega) 3 n (by have := hm n hn2; omega) c hcx
      exact ⟨⟨d, hd⟩, rfl⟩
  intro c hc
  unfold sixTell at hc
  split at hc
  · exact hrow ns hn c hc
  · rcases List.mem_append.1 hc with hc | hc
    · exact hrow _ (fun n h => hn n (List.mem_of_mem_take h)) c hc
    · rcases List.mem_append.1 hc with hc | hc
      · simp at hc; exact Or.inl hc
      · exact hrow _ (fun n h => hn n (List.mem_of_mem_drop h)) c hc
theorem bracketed_form (l h : Bs) (hb : bracketed l = some h) : ∃ ns : List Nat, ns.length = 8 ∧ (∀ n ∈ ns, n < 65536) ∧ h = sixWant ns := by
  unfold bracketed at hb
  split at hb
  · cases hs : sixOf (Lib.trimSuffix l [93]) with
    | none => rw [hs] at hb; cases hb
    | some ps =>
      rw [hs] at hb
      simp only [Option.some.injEq] at hb
      have hok := sixOf_ok _ ps hs
      refine ⟨ps.map Int.toNat, by simp [hok.1], fun n hn => ?_, hb.symm⟩
      obtain ⟨p, hp, rfl⟩ := List.mem_map.1 hn
      have := hok.2 p hp
      unfold okPiece at this
      omega
  · cases hb

theorem hostTell_cases (t : Bs) (sp : Bool) (h : Bs) (ht : hostTell t sp = some h) :
    (t.head? = some 91 ∧ ∃ ns : List Nat, ns.length = 8 ∧ (∀ n ∈ ns, n < 65536) ∧ h = sixWant ns) ∨ (sp = false ∧ t.any badP = false ∧ h = esc 0 t) ∨
    (sp = true ∧ unesc t ≠ [] ∧ (unesc t).any badS = false ∧ ((∃ n, n < 4294967296 ∧ h = tell4 n) ∨ (numLabel ((labels (Lib.toLowerA (unesc t))).getLastD []) = false ∧ h = Lib.toLowerA (unesc t)))) := by
  unfold hostTell at ht
  split at ht
  · rename_i hp
    exact Or.inl ⟨(pfx91 t).1 hp, bracketed_form _ h ht⟩
  · cases sp with
    | false =>
      right; left
      simp only [Bool.false_eq_true, if_false] at ht
      unfold hostPlain at ht
      split at ht
      · cases ht
      · rename_i hb
        simp only [Option.some.injEq] at ht
        exact ⟨rfl, by simpa using hb, ht.symm⟩
    | true =>
      right; right
      simp only [if_true] at ht
      unfold hostSpecial at ht
      split at ht
      · cases ht
      · rename_i hne
        split at ht
        · cases ht
        · rename_i hb
          refine ⟨rfl, hne, by simpa using hb, ?_⟩
          split at ht
          · left
            cases hi : ip4 (labels (Lib.toLowerA (unesc t))) with
            | none => rw [hi] at ht; cases ht
            | some a =>
              rw [hi] at ht
              simp only [Option.map_some, Option.some.injEq] at ht
              have hr := ip4_range _ a (labels_ne _) hi
              exact ⟨a.toNat, by omega, ht.symm⟩
          · rename_i hnl
            simp only [Option.some.injEq] at ht
            exact Or.inr ⟨by simpa using hnl, ht.symm⟩

theorem not_any (p : UInt8 → Bool) (l : Bs) : l.any p = false ↔ ∀ c ∈ l, p c = false := by
  rw [List.any_eq_false]
  simp

theorem plain_esc (t : Bs) (hb : t.any badP = false) : ∀ c ∈ esc 0 t, badP c = false ∧ holdsB 0 c.toNat = false := by
  intro c hc
  rcases esc_mem 0 t c hc with ⟨h1, h2⟩ | rfl | ⟨k, rfl⟩
  · exact ⟨(not_any _ _).1 hb c h1, h2⟩
  · exact pctP
  · exact capP k
theorem lower_good (x : Bs) (hb : x.any badS = false) : ∀ c ∈ Lib.toLowerA x, badS c = false := by
  intro c hc
  obtain ⟨d, hd, rfl⟩ := List.mem_map.1 hc
  exact (badS_out d ((not_any _ _).1 hb d hd)).2.2.2.2

theorem hostLaws : HostLaws hostTell := by
  refine ⟨?_, ?_, ?_, ?_, by decide +kernel, ?_⟩
  · intro t sp h ht
    rcases hostTell_cases t sp h ht with ⟨_, ns, h8, hn, rfl⟩ | ⟨rfl, hb, rfl⟩ | ⟨rfl, hne, hb, ⟨n, hn, rfl⟩ | ⟨hnl, rfl⟩⟩
    · unfold hostTell
      rw [if_pos (show Lib.hasPrefix (sixWant ns) [91] = true from rfl)]
      exact want_told ns h8 hn
    · have hp := plain_esc t hb
      unfold hostTell
      rw [no91 _ (fun c hc => (badP_out c (hp c hc).1 (hp c hc).2).2.2)]
      simp only [Bool.false_eq_true, if_false]
      unfold hostPlain
      rw [if_neg (by rw [(not_any _ _).2 (fun c hc => (hp c hc).1)]; simp), esc_same 0 _ (fun c hc => (hp c hc).2)]
    · have hbt := tell4_bytes n hn
      have h91 : ∀ c ∈ tell4 n, c ≠ 91 := fun c hc => by
        rcases hbt.2 c hc with rfl | h
        · decide
        · exact (okT_out c h).2.2
      unfold hostTell
      rw [no91 _ h91]
      simp only [Bool.false_eq_true, if_false, if_true]
      exact tell4_host n hn
    · have hg := lower_good _ hb
      unfold hostTell
      rw [no91 _ (fun c hc => (badS_out c (hg c hc)).2.2.1)]
      simp only [Bool.false_eq_true, if_false, if_true]
      rw [unesc_plain _ (fun c hc => (badS_out c (hg c hc)).2.2.2.1)]
      unfold hostSpecial
      rw [if_neg (by unfold Lib.toLowerA; simpa using hne), if_neg (by rw [(not_any _ _).2 hg]; simp), lower_lower, if_neg (by rw [hnl]; simp)]
  · intro t sp h ht
    rcases hostTell_cases t sp h ht with ⟨_, ns, h8, hn, rfl⟩ | ⟨rfl, hb, rfl⟩ | ⟨rfl, hne, hb, ⟨n, hn, rfl⟩ | ⟨hnl, rfl⟩⟩
    · intro c hc
      unfold sixWant at hc
      rcases List.mem_append.1 hc with hc | hc
      · rw [List.mem_singleton] at hc; subst hc; decide
      · rcases List.mem_append.1 hc with hc | hc
        · rcases sixTell_bytes ns hn c hc with rfl | ⟨d, rfl⟩
          · decide
          · exact (hexL_out d).1
        · rw [List.mem_singleton] at hc; subst hc; decide
    · exact fun c hc => (badP_out c (plain_esc t hb c hc).1 (plain_esc t hb c hc).2).1
    · intro c hc
      rcases (tell4_bytes n hn).2 c hc with rfl | h
      · decide
      · exact (okT_out c h).1
    · exact fun c hc => (badS_out c (lower_good _ hb c hc)).1
  · intro t sp h ht
    rcases hostTell_cases t sp h ht with ⟨_, ns, h8, hn, rfl⟩ | ⟨rfl, hb, rfl⟩ | ⟨rfl, hne, hb, ⟨n, hn, rfl⟩ | ⟨hnl, rfl⟩⟩
    · refine Or.inr ⟨sixTell ns, rfl, fun c hc => ?_⟩
      rcases sixTell_bytes ns hn c hc with rfl | ⟨d, rfl⟩
      · decide
      · exact (hexL_out d).2
    · exact Or.inl fun c hc => (badP_out c (plain_esc t hb c hc).1 (plain_esc t hb c hc).2).2
    · left
      intro c hc
      rcases (tell4_bytes n hn).2 c hc with rfl | h
      · decide
      · exact (okT_out c h).2
    · exact Or.inl fun c hc => ⟨(badS_out c (lower_good _ hb c hc)).2.1, (badS_out c (lower_good _ hb c hc)).2.2.1⟩
  · intro t h ht
    rcases hostTell_cases t true h ht with ⟨_, ns, h8, hn, rfl⟩ | ⟨hx, _⟩ | ⟨_, hne, hb, ⟨n, hn, rfl⟩ | ⟨hnl, rfl⟩⟩
    · unfold sixWant; simp
    · cases hx
    · exact (tell4_bytes n hn).1
    · unfold Lib.toLowerA; simpa using hne
  · intro t sp ht
    rcases hostTell_cases t sp [] ht with ⟨_, ns, h8, hn, he⟩ | ⟨rfl, hb, he⟩ | ⟨rfl, hne, hb, ⟨n, hn, he⟩ | ⟨hnl, he⟩⟩
    · unfold sixWant at he; simp at he
    · cases t with
      | nil => rfl
      | cons c t =>
        have := congrArg List.length he
        rw [esc_len] at this
        simp at this
        omega
    · exact absurd he.symm (tell4_bytes n hn).1
    · have := congrArg List.length he
      unfold Lib.toLowerA at this
      simp only [List.length_nil, List.length_map] at this
      exact absurd (List.length_eq_zero_iff.1 this.symm) hne

-- brackets in the wrong place
end Go.Moor
/-
  Plain mathematics: what is told is read as itself, with any base or none, with blanks around it; its parts, put together, are it.
-/
namespace Go.Moor
open Go

theorem again_good {t b s : Bs} (h : parse hostTell t b = .ok s) : ∃ a, Good hostTell a ∧ s = tellAddr a := by
  unfold parse at h
  split at h
  · cases h
  · cases hr : readBeside hostTell t b with
    | error e => rw [hr] at h; cases h
    | ok a =>
      rw [hr] at h
      injection h with h
      exact ⟨a, good_beside hostTell hostLaws t b a hr, h.symm⟩
theorem again_one {a : Adr} (h : Good hostTell a) (hl : (tellAddr a).length ≤ 2000) : parse hostTell (tellAddr a) [] = .ok (tellAddr a) :=
  parse_is hl (by simp) (alone_is (read_good hostTell hostLaws a h none)) rfl
theorem again_two {a : Adr} (h : Good hostTell a) (hl : (tellAddr a).length ≤ 2000) (b : Bs) (hb : b.length ≤ 2000) : parse hostTell (tellAddr a) b = .ok (tellAddr a) ∨ parse hostTell (tellAddr a) b = .error 2 := by
  by_cases hn : b = []
  · left
    rw [hn]
    exact again_one h hl
  · cases hr : readAddr hostTell b none with
    | error e =>
      right
      unfold parse readBeside
      rw [if_neg (by omega), if_neg hn, hr]
    | ok c => exact Or.inl (parse_is hl hb (beside_is hn hr (read_good hostTell hostLaws a h (some c))) rfl)
theorem strip_blank (l : Bs) (h : ∀ c ∈ l, 33 ≤ c.toNat) (hn : l ≠ []) : stripB ([32, 9] ++ l ++ [10, 32]) = l := by
  unfold stripB
  rw [List.append_assoc, trimB_core [32, 9] l [10, 32] (by decide) (by decide) (fun x hx => blank_core x (h x (by
    cases l with
    | nil => cases hx
    | cons y l => simp at hx; subst hx; simp))) (fun x hx => blank_core x (h x (List.mem_of_getLast? hx)))]
  exact filter_core l h
theorem again_three {a : Adr} (h : Good hostTell a) (hl : (tellAddr a).length ≤ 1996) : parse hostTell ([32, 9] ++ tellAddr a ++ [10, 32]) [] = .ok (tellAddr a) := by
  have hb := tell_bytes hostTell hostLaws a h
  have hn : tellAddr a ≠ [] := by unfold tellAddr; simp
  have e : readAddr hostTell ([32, 9] ++ tellAddr a ++ [10, 32]) none = readAddr hostTell (tellAddr a) none := by
    unfold readAddr
    rw [strip_blank _ (fun c hc => (hb c hc).1) hn, strip_same _ (fun c hc => (hb c hc).1)]
  refine parse_is ?_ (by simp) (alone_is (by rw [e]; exact read_good hostTell hostLaws a h none)) rfl
  simp only [List.length_append, List.length_cons, List.length_nil]
  omega
/-- When two slashes stand ahead of a path. -/
def twoAhead (p : Bs) : Bool := decide (1 < p.length) && (p.take 2 == [47, 47])
theorem guard_ahead {a : Adr} (h : Good hostTell a) : guardB a = if a.auth.has = false ∧ twoAhead (tellWay a.way) = true then [47, 46] else [] := by
  unfold guardB
  by_cases hh : a.auth.has = false
  · by_cases ho : a.way.opaq = true
    · obtain ⟨_, h2, _, h4⟩ := h.opaq ho
      rw [if_neg (by rw [h2]; simp), if_neg]
      rintro ⟨_, h5⟩
      unfold twoAhead tellWay at h5
      rw [if_pos ho] at h5
      cases ht : a.way.text with
      | nil => rw [ht] at h5; simp at h5
      | cons c r =>
        rw [ht] at h5 h4
        simp at h5 h4
        exact h4 h5.2.1
    · have e : (1 < a.way.segs.length ∧ a.way.segs.head? = some []) ↔ twoAhead (tellWay a.way) = true := by
        unfold twoAhead tellWay
        rw [if_neg ho]
        have hs := h.seg
        match hsg : a.way.segs with
        | [] => simp [tellSegs]
        | [p] =>
          rw [hsg] at hs
          have h1 := (hs p (by simp)).2
          cases p with
          | nil => simp [tellSegs]
          | cons c p =>
            have := (h1 c (by simp)).2.1
            simp [tellSegs, this]
        | p :: q :: r =>
          rw [hsg] at hs
          have h1 := (hs p (by simp)).2
          cases p with
          | nil => simp [tellSegs]
          | cons c p =>
            have := (h1 c (by simp)).2.1
            simp [tellSegs, this]
      by_cases hg : twoAhead (tellWay a.way) = true
      · rw [if_pos ⟨hh, e.2 hg⟩, if_pos ⟨hh, hg⟩]
      · rw [if_neg (fun x => hg (e.1 x.2)), if_neg (fun x => hg x.2)]
  · rw [if_neg (fun x => hh x.1), if_neg (fun x => hh x.1)]
end Go.Moor
/-
  Plain mathematics: what is refused has a number that is not nought.
-/
namespace Go.Moor
open Go
variable (H : Bs → Bool → Option Bs)
theorem readAuth_err (t s : Bs) (e : Int) (h : readAuth H t s = .error e) : e ≠ 0 := by
  unfold readAuth at h
  simp only at h
  split at h
  · injection h with h; omega
  · split at h
    · injection h with h; omega
    · cases h
theorem fromAuth_err (s t : Bs) (e : Int) (h : fromAuth H s t = .error e) : e ≠ 0 := by
  unfold fromAuth at h
  simp only at h
  cases hr : readAuth H (cutSlash t).1 s with
  | error n => rw [hr] at h; injection h with h; subst h; exact readAuth_err H _ _ _ hr
  | ok x => rw [hr] at h; cases h
theorem readFile_err (m : Bs) (q : Option Bs) (b : Option Adr) (e : Int) (h : readFile H m q b = .error e) : e ≠ 0 := by
  unfold readFile at h
  split at h
  · simp only at h
    split at h
    · cases h
    · split at h
      · injection h with h; omega
      · cases h
  · split at h
    · cases h
    · split at h
      · cases h
      · split at h
        · cases h
        · cases h
theorem readRelative_err (s m : Bs) (q : Option Bs) (b : Adr) (e : Int) (h : readRelative H s m q b = .error e) : e ≠ 0 := by
  unfold readRelative at h
  split at h
  · cases hr : fromAuth H s (if special s = true then trimSlashes (m.drop 2) else m.drop 2) with
    | error n => rw [hr] at h; injection h with h; subst h; exact fromAuth_err H _ _ _ hr
    | ok x => rw [hr] at h; cases h
  · split at h
    · cases h
    · cases h
theorem readOther_err (s m : Bs) (e : Int) (h : readOther H s m = .error e) : e ≠ 0 := by
  unfold readOther at h
  split at h
  · exact fromAuth_err H _ _ _ h
  · split at h
    · cases h
    · cases h
theorem readMiddle_err (s m : Bs) (q : Option Bs) (b : Option Adr) (e : Int) (h : readMiddle H s m q b = .error e) : e ≠ 0 := by
  unfold readMiddle at h
  split at h
  · exact readFile_err H _ _ _ _ h
  · split at h
    · exact readRelative_err H _ _ _ _ _ h
    · split at h
      · rename_i n hr
        injection h with h
        subst h
        split at hr
        · exact fromAuth_err H _ _ _ hr
        · exact readOther_err H _ _ _ hr
      · cases h
theorem readMarked_err (s m : Bs) (q f : Option Bs) (b : Option Adr) (e : Int) (h : readMarked H s m q f b = .error e) : e ≠ 0 := by
  unfold readMarked at h
  split at h
  · rename_i n hr
    injection h with h
    subst h
    exact readMiddle_err H _ _ _ _ _ hr
  · cases h
theorem readCuts_err (c : Cuts) (b : Option Adr) (e : Int) (h : readCuts H c b = .error e) : e ≠ 0 := by
  unfold readCuts at h
  split at h
  · exact readMarked_err H _ _ _ _ _ _ h
  · split at h
    · injection h with h; omega
    · split at h
      · split at h
        · cases h
        · injection h with h; omega
      · exact readMarked_err H _ _ _ _ _ _ h
theorem parse_err (t b : Bs) (e : Int) (h : parse H t b = .error e) : e ≠ 0 := by
  unfold parse at h
  split at h
  · injection h with h; omega
  · unfold readBeside at h
    split at h
    · rename_i n hr
      injection h with h
      subst h
      split at hr
      · exact readCuts_err H _ _ _ hr
      · split at hr
        · injection hr with hr; omega
        · exact readCuts_err H _ _ _ hr
    · cases h
end Go.Moor
/-
  Plain mathematics: what Given asks of an address with another part.
-/
namespace Go.Moor
open Go

theorem login_user (a : Auth) : a.user.Sublist (tellLogin a) := by
  unfold tellLogin
  split
  · exact List.sublist_append_left _ _
  · split
    · exact List.sublist_append_left _ _
    · rename_i h
      have : a.user = [] := Classical.byContradiction h
      rw [this]
      exact List.nil_sublist _
theorem login_pass (a : Auth) : a.pass.Sublist (tellLogin a) := by
  unfold tellLogin
  split
  · exact ((List.sublist_append_left a.pass [64]).trans (List.sublist_cons_self 58 _)).trans (List.sublist_append_right _ _)
  · rename_i h
    have : a.pass = [] := Classical.byContradiction h
    rw [this]
    exact List.nil_sublist _
theorem place_host (a : Auth) : a.host.Sublist (tellPlace a) := by
  unfold tellPlace
  split
  · exact List.Sublist.refl _
  · exact List.sublist_append_left _ _
theorem place_port (a : Auth) (h : a.port ≠ -1) : (decB a.port).Sublist (tellPlace a) := by
  unfold tellPlace
  rw [if_neg h]
  exact (List.sublist_cons_self 58 _).trans (List.sublist_append_right _ _)
theorem auth_sub (a : Auth) (x : Bs) (hh : a.has = true) (h : x.Sublist (tellLogin a) ∨ x.Sublist (tellPlace a)) : x.Sublist (tellAuth a) := by
  unfold tellAuth
  rw [if_pos hh]
  refine List.Sublist.trans ?_ ((List.sublist_cons_self 47 _).trans (List.sublist_cons_self 47 _))
  rcases h with h | h
  · exact h.trans (List.sublist_append_left _ _)
  · exact h.trans (List.sublist_append_right _ _)
theorem tell_auth (a : Adr) : (tellAuth a.auth).Sublist (tellAddr a) := by
  unfold tellAddr
  exact ((List.sublist_append_left _ _).trans (List.sublist_cons_self 58 _)).trans (List.sublist_append_right _ _)
theorem tell_way (a : Adr) : (tellWay a.way).Sublist (tellAddr a) := by
  unfold tellAddr
  exact (((((List.sublist_append_left _ _).trans (List.sublist_append_right (guardB a) _)).trans (List.sublist_append_right (tellAuth a.auth) _)).trans (List.sublist_cons_self 58 _)).trans (List.sublist_append_right _ _))

theorem partText_sub (a : Adr) (h : Good hostTell a) (n : Int) : (partText a n).Sublist (tellAddr a) := by
  have hn : a.auth.has = false → a.auth = noAuth := h.bare
  unfold partText
  split
  · unfold tellAddr
    exact List.sublist_append_left _ _
  · split
    · cases hh : a.auth.has with
      | true => exact (auth_sub _ _ hh (Or.inl (login_user _))).trans (tell_auth a)
      | false => rw [hn hh]; exact List.nil_sublist _
    · split
      · cases hh : a.auth.has with
        | true => exact (auth_sub _ _ hh (Or.inl (login_pass _))).trans (tell_auth a)
        | false => rw [hn hh]; exact List.nil_sublist _
      · split
        · cases hh : a.auth.has with
          | true => exact (auth_sub _ _ hh (Or.inr (place_host _))).trans (tell_auth a)
          | false => rw [hn hh]; exact List.nil_sublist _
        · split
          · split
            · rename_i hp
              cases hh : a.auth.has with
              | true => exact (auth_sub _ _ hh (Or.inr (place_port _ (by omega)))).trans (tell_auth a)
              | false => rw [hn hh] at hp; exact absurd hp (by decide)
            · exact List.nil_sublist _
          · exact tell_way a

theorem alone_good {t : Bs} {a : Adr} (h : readAlone hostTell t = .ok a) : Good hostTell a := by
  unfold readAlone at h
  split at h
  · cases h
  · exact good_read hostTell hostLaws t none (fun b hb => by cases hb) a h
theorem alone_err {t : Bs} {n : Int} (h : readAlone hostTell t = .error n) : n ≠ 0 := by
  unfold readAlone at h
  split at h
  · injection h with h; omega
  · unfold readAddr at h
    exact readCuts_err hostTell _ _ _ h
theorem setPart_err {a : Adr} {p : Int} {v : Bs} {n : Int} (h : setPart hostTell a p v = .error n) : n ≠ 0 := by
  unfold setPart at h
  split at h
  · unfold setScheme at h
    simp only at h
    split at h
    · injection h with h; omega
    · split at h
      · injection h with h; omega
      · cases h
  · split at h
    · unfold setBeside at h
      split at h
      · injection h with h; omega
      · split at h
        · cases h
        · split at h
          · cases h
          · split at h
            · injection h with h; omega
            · cases h
    · split at h
      · unfold setHost at h
        split at h
        · injection h with h; omega
        · split at h
          · injection h with h; omega
          · split at h
            · injection h with h; omega
            · cases h
      · split at h
        · unfold setPath at h
          split at h
          · injection h with h; omega
          · split at h
            · injection h with h; omega
            · cases h
        · split at h
          · cases h
          · split at h
            · cases h
            · injection h with h; omega
theorem withPart_err {t : Bs} {p : Int} {v : Bs} {n : Int} (h : withPart hostTell t p v = .error n) : n ≠ 0 := by
  unfold withPart at h
  split at h
  · injection h with h; omega
  · split at h
    · rename_i e he
      injection h with h
      subst h
      exact alone_err he
    · split at h
      · rename_i e he
        injection h with h
        subst h
        exact setPart_err he
      · cases h
theorem withPart_no {t : Bs} {p : Int} {v : Bs} {n : Int} (h : readAlone hostTell t = .error n) : ∃ m, withPart hostTell t p v = .error m ∧ m ≠ 0 := by
  unfold withPart
  split
  · exact ⟨1, rfl, by omega⟩
  · rw [h]
    exact ⟨n, rfl, alone_err h⟩
theorem withPart_ok {t : Bs} {p : Int} {v s : Bs} {a : Adr} (ha : readAlone hostTell t = .ok a) (h : withPart hostTell t p v = .ok s) : ∃ b, setPart hostTell a p (bareB v) = .ok b ∧ Good hostTell b ∧ s = tellAddr b := by
  unfold withPart at h
  split at h
  · cases h
  · rw [ha] at h
    simp only at h
    split at h
    · cases h
    · rename_i b hb
      injection h with h
      exact ⟨b, hb, setPart_good hostTell hostLaws a b p _ (alone_good ha) hb, h.symm⟩
theorem alone_told {b : Adr} (h : Good hostTell b) (hl : (tellAddr b).length ≤ 2000) : readAlone hostTell (tellAddr b) = .ok b := by
  unfold readAlone
  rw [if_neg (by omega)]
  exact read_good hostTell hostLaws b h none
theorem withPart_same {a b : Adr} {p : Int} {v : Bs} (ha : Good hostTell a) (h : setPart hostTell a p v = .ok b) (hp : 1 ≤ p ∧ p ≤ 6) (hl : (tellAddr b).length ≤ 2000) : withPart hostTell (tellAddr b) p (partText b p) = .ok (tellAddr b) := by
  have hb := setPart_good hostTell hostLaws a b p v ha h
  have hs := partText_sub b hb p
  have h1 : (partText b p).length ≤ 2000 := Nat.le_trans hs.length_le hl
  have h2 : bareB (partText b p) = partText b p := bareB_same _ fun c hc => (tell_bytes hostTell hostLaws b hb c (hs.subset hc)).1
  unfold withPart
  rw [if_neg (by omega), alone_told hb hl]
  simp only
  rw [h2, setPart_same hostTell hostLaws a b p v ha h hp]
end Go.Moor
/-
  What the variables hold that Address.With reads.
-/
namespace Go.Proofs
open Go.RowKit Go.Moor

structure Tryz.Env3 (w : World) : Prop where
  env2 : Tryz.Env2 w
  ePart : Tryz.Err 3 w
  eScheme : Tryz.Err 7 w
  eKind : Tryz.Err 8 w
  eBare : Tryz.Err 9 w
  eBeside : Tryz.Err 11 w
  eOpaq : Tryz.Err 10 w

theorem Tryz.Env3.below {w w' : World} (h : Tryz.Env3 w) (hb : Below w.heap.size w w') : Tryz.Env3 w' := by
  have hz := h.env2.env.size
  exact ⟨h.env2.below hb, h.ePart.below hb (by omega), h.eScheme.below hb (by omega), h.eKind.below hb (by omega), h.eBare.below hb (by omega), h.eBeside.below hb (by omega), h.eOpaq.below hb (by omega)⟩
/-- A fault with that number. -/
def Tryz.FaultOf (n : Int) (e : Ending) : Prop := ∃ (x y : ByteArray) (te : TypeId) (ve : Value), e = .returned (.iface 96 (.agg #[.int .i64 n, .string x, .string y, .iface te ve]))
theorem Tryz.errPart_any (x y : ByteArray) (te : TypeId) (ve : Value) (w : World) : Calls Tryz.prog 105 #[.string x, .string y, .iface te ve] w fun e w' => e = .returned (.iface 96 (.agg #[.int .i64 6, .string x, .string y, .iface te ve])) ∧ w' = w := by
  go_enter Tryz.func105, Tryz.ntmps105
  go_wp2
  go_ret
  exact ⟨rfl, rfl⟩

theorem trimMark_is (c : UInt8) (v : Bs) : Lib.trimPrefix v [c] = trimMark c v := by
  cases v with
  | nil => rfl
  | cons b l =>
    unfold Lib.trimPrefix trimMark Lib.hasPrefix
    by_cases h : b = c
    · simp [h]
    · have : ¬ c = b := fun e => h e.symm
      simp [h, this]
set_option maxHeartbeats 1000000 in
theorem Tryz.behindMark_any (v : Bs) (c : UInt8) (w : World) :
    Calls Tryz.prog 102 #[.string ⟨v.toArray⟩, .string ⟨#[c]⟩] w fun e w' => e = .returned (.agg #[.bool (!v.isEmpty), .string ⟨(trimMark c v).toArray⟩]) ∧ Below w.heap.size w w' := by
  have HT : Hid (∀ W, Calls Tryz.prog 165 #[.string ⟨v.toArray⟩, .string ⟨#[c]⟩] W fun e w' => e = .returned (.string ⟨(trimMark c v).toArray⟩) ∧ w' = W) := by
    intro W
    refine (Tryz.strings_TrimPrefix ⟨v.toArray⟩ ⟨#[c]⟩ W).mono ?_
    rintro e w' ⟨rfl, hw⟩
    refine ⟨?_, hw⟩
    rw [← trimMark_is]
  obtain ⟨W, hW⟩ : ∃ W, W = w.alloc (.cells #[.bool false, .string ⟨#[]⟩] 75) := ⟨_, rfl⟩
  have HBW : Hid (Below w.heap.size w W) := by
    show Below _ _ _
    rw [hW]
    exact (Below.refl _ _).alloc (Nat.le_refl _) _
  have hz : W.heap[w.heap.size]? = some (.cells #[.bool false, .string ⟨#[]⟩] 75 (0, 0)) := by rw [hW]; exact alloc_here w _ _
  have HZ : Hid (W.heap[w.heap.size]? = some (.cells #[.bool false, .string ⟨#[]⟩] 75 (0, 0))) := hz
  have d0 : W.cell? ⟨w.heap.size, 0, none⟩ = some (.bool false) := cell_heap hz 0
  have d1 : W.cell? ⟨w.heap.size, 1, none⟩ = some (.string ⟨#[]⟩) := cell_heap hz 1
  have f0 := frozen_heap hz 0
  have f1 := frozen_heap hz 1
  have hemp : (⟨v.toArray⟩ : ByteArray).toList.isEmpty = v.isEmpty := mk_empty v
  generalize v.isEmpty = q at *
  generalize (⟨(trimMark c v).toArray⟩ : ByteArray) = tm at *
  generalize (⟨v.toArray⟩ : ByteArray) = vb at *
  clear hz
  go_enter Tryz.func102, Tryz.ntmps102
  go_upto_region 1 with fail
  rw [← hW]
  clear hW
  go_wp2_with fail
  refine Calls.mono (HT.out _) ?_
  rintro e W0 ⟨rfl, hw0⟩
  have hw0 := hw0.symm
  subst hw0
  go_wp2
  have h2 := heap_setCell_same _ w.heap.size 1 _ 75 (.string tm) (heap_setCell_same W w.heap.size 0 _ 75 (.bool (!q)) HZ.out)
  refine bodyPost_ret (v := .agg #[.bool (!q), .string tm]) (results_cell_row rfl _ _ w.heap.size 75 _ (0, 0) _ rfl h2 Tryz.underlying75 rfl Tryz.sizeOptional) rfl ⟨rfl, ?_⟩
  exact (HBW.out.setCell (Nat.le_refl _) _).setCell (Nat.le_refl _) _
end Go.Proofs
/-
  What a row's list gives of all that the walks of With ask of the variables.
-/
namespace Go.Proofs.YtkcnageeamappaaGreatDoor
open Go.ChangeShapes Go.WideShapes Go.ChangeAt Go.RowKit Go.Moor

/-- What every list of a law that gives parts holds beside those. -/
def partLaid : List (String × DataW Unit) := [("moor/address.errNoPart", Rows.laid_moor_address_errNoPart), ("moor/address.errNoScheme", Rows.laid_moor_address_errNoScheme), ("moor/address.errOtherKind", Rows.laid_moor_address_errOtherKind), ("moor/address.errBareHost", Rows.laid_moor_address_errBareHost), ("moor/address.errBeside", Rows.laid_moor_address_errBeside), ("moor/address.errOpaque", Rows.laid_moor_address_errOpaque)]
theorem env3_of_reads {W : World} (hp : ∀ x ∈ plainLaid, Lib.VarReads Tryz.prog W x.1 x.2) (hq : ∀ x ∈ needLaid, Lib.VarReads Tryz.prog W x.1 x.2) (hr : ∀ x ∈ partLaid, Lib.VarReads Tryz.prog W x.1 x.2) (hh : handlesMet Tryz.prog [("errors.errorType", Rows.laid_errors_errorType)] W) (hsh : W.ShapedOpen Tryz.prog) : Tryz.Env3 W :=
  ⟨env2_of_reads hp hq hh hsh,
    err_of_reads (by kernel_rfl) (by kernel_rfl) (hr ("moor/address.errNoPart", _) (by simp [partLaid]; rfl)), err_of_reads (by kernel_rfl) (by kernel_rfl) (hr ("moor/address.errNoScheme", _) (by simp [partLaid]; rfl)),
    err_of_reads (by kernel_rfl) (by kernel_rfl) (hr ("moor/address.errOtherKind", _) (by simp [partLaid]; rfl)), err_of_reads (by kernel_rfl) (by kernel_rfl) (hr ("moor/address.errBareHost", _) (by simp [partLaid]; rfl)),
    err_of_reads (by kernel_rfl) (by kernel_rfl) (hr ("moor/address.errBeside", _) (by simp [partLaid]; rfl)), err_of_reads (by kernel_rfl) (by kernel_rfl) (hr ("moor/address.errOpaque", _) (by simp [partLaid]; rfl))⟩
end Go.Proofs.YtkcnageeamappaaGreatDoor
