/-
  Plain mathematics for what is told of eight pieces: two colons stand beside one another at most once; where they do not, no two noughts stand beside one another; no great letter.
-/
import Derived.Test.YtkcnageeamappabGreatDoorJSxDots
import Derived.Test.YtkcnageeamappabGreatDoorJGKeep
namespace Go.Moor
open Go

/-- How often two colons stand beside one another. -/
def ccCount : List UInt8 → Nat
  | [] => 0
  | a :: l => (if (a == 58 && l.head? == some 58) = true then 1 else 0) + ccCount l
theorem ccCount_none : ∀ l : List UInt8, hasCC l = false → ccCount l = 0
  | [], _ => rfl
  | a :: l, h => by
    rw [hasCC, Bool.or_eq_false_iff] at h
    rw [ccCount, h.1, ccCount_none l h.2]
    rfl
theorem ccCount_one (r : List UInt8) (hr : hasCC (58 :: r) = false) : ∀ p : List UInt8, hasCC (p ++ [58]) = false → ccCount (p ++ 58 :: 58 :: r) = 1
  | [], _ => by
    show ccCount (58 :: 58 :: r) = 1
    rw [ccCount, ccCount_none _ hr]
    rfl
  | a :: q, h => by
    rw [List.cons_append, hasCC, Bool.or_eq_false_iff] at h
    show ccCount (a :: (q ++ 58 :: 58 :: r)) = 1
    rw [ccCount, head_app, h.1, ccCount_one r hr q h.2]
    rfl

theorem noughts_ge : ∀ (ps : List Nat) (i row s l : Nat), l ≤ (noughts ps i row s l).2
  | [], _, _, _, _ => Nat.le_refl _
  | p :: ps, i, row, s, l => by
    unfold noughts
    split
    · exact noughts_ge ps _ _ _ _
    · split
      · rename_i h
        exact Nat.le_trans (Nat.le_of_lt h) (noughts_ge ps _ _ _ _)
      · exact noughts_ge ps _ _ _ _
theorem noughts_next (ps : List Nat) (i row s l : Nat) : row + 1 ≤ (noughts (0 :: ps) i row s l).2 := by
  unfold noughts
  rw [if_neg (by simp)]
  split
  · exact noughts_ge ps _ _ _ _
  · rename_i h
    exact Nat.le_trans (by omega) (noughts_ge ps (i + 1) (row + 1) s l)
theorem noughts_two (b : List Nat) : ∀ (a : List Nat) (i row s l : Nat), 2 ≤ (noughts (a ++ 0 :: 0 :: b) i row s l).2
  | [], i, row, s, l => by
    show 2 ≤ (noughts (0 :: 0 :: b) i row s l).2
    rw [noughts, if_neg (by simp)]
    split
    · exact Nat.le_trans (by omega) (noughts_next b (i + 1) (row + 1) _ _)
    · exact Nat.le_trans (by omega) (noughts_next b (i + 1) (row + 1) _ _)
  | p :: a, i, row, s, l => by
    show 2 ≤ (noughts (p :: (a ++ 0 :: 0 :: b)) i row s l).2
    rw [noughts]
    split
    · exact noughts_two b a _ _ _ _
    · split
      · exact noughts_two b a _ _ _ _
      · exact noughts_two b a _ _ _ _
theorem no_two (ns : List Nat) (h : (noughts ns 0 0 0 0).2 < 2) (i : Nat) (h0 : ns[i]? = some 0) (h1 : ns[i + 1]? = some 0) : False := by
  obtain ⟨a0, e0⟩ := List.getElem?_eq_some_iff.1 h0
  obtain ⟨a1, e1⟩ := List.getElem?_eq_some_iff.1 h1
  have e : ns = ns.take i ++ 0 :: 0 :: ns.drop (i + 2) := by
    conv => lhs; rw [← List.take_append_drop i ns, List.drop_eq_getElem_cons a0, List.drop_eq_getElem_cons a1, e0, e1]
  have := noughts_two (ns.drop (i + 2)) (ns.take i) 0 0 0 0
  rw [← e] at this
  omega

theorem row_plain (ns : List Nat) (hn : ∀ n ∈ ns, n < 65536) : ∀ x ∈ (toldRow ns).map (·.1), plainTxt x := by
  intro x hx
  obtain ⟨z, hz, rfl⟩ := List.mem_map.1 hx
  exact (toldRow_reads ns hn z hz).1

/-- What is told, in its brackets. -/
def sixWant (ns : List Nat) : List UInt8 := [91] ++ (sixTell ns ++ [93])

theorem cc_colon (ns : List Nat) (hn : ∀ n ∈ ns, n < 65536) : hasCC (58 :: (tellRow ns ++ [93])) = false := by
  rw [hasCC, Bool.or_eq_false_iff]
  rw [tellRow_C]
  refine ⟨?_, cc_joinC [93] (by decide) _ (row_plain ns hn)⟩
  rw [Bool.and_eq_false_iff]
  right
  rw [beq_eq_false_iff_ne]
  cases ns with
  | nil => decide
  | cons n l => exact joinC_head _ (by simp [toldRow]) (row_plain _ hn) [93]

theorem want_short (ns : List Nat) (hn : ∀ n ∈ ns, n < 65536) : ccCount (sixWant ns) = if (noughts ns 0 0 0 0).2 < 2 then 0 else 1 := by
  unfold sixWant sixTell
  split
  · refine ccCount_none _ ?_
    rw [tellRow_C]
    exact cc_app _ (cc_joinC [93] (by decide) _ (row_plain ns hn)) [91] (by decide)
  · have h1 : ∀ n ∈ ns.take (noughts ns 0 0 0 0).1, n < 65536 := fun n hm => hn n (List.mem_of_mem_take hm)
    have h2 : ∀ n ∈ ns.drop ((noughts ns 0 0 0 0).1 + (noughts ns 0 0 0 0).2), n < 65536 := fun n hm => hn n (List.mem_of_mem_drop hm)
    have := ccCount_one (tellRow (ns.drop ((noughts ns 0 0 0 0).1 + (noughts ns 0 0 0 0).2)) ++ [93]) (cc_colon _ h2) ([91] ++ tellRow (ns.take (noughts ns 0 0 0 0).1)) (by
      rw [List.append_assoc, tellRow_C]
      exact cc_app _ (cc_joinC [58] (by decide) _ (row_plain _ h1)) [91] (by decide))
    rw [← this]
    congr 1
    simp

theorem hexL_small : ∀ d : Fin 16, (hexL d.val).toNat < 65 ∨ 70 < (hexL d.val).toNat := by decide +kernel
theorem joinC_mem : ∀ (ls : List (List UInt8)) (c : UInt8), c ∈ joinC ls → c = 58 ∨ ∃ x ∈ ls, c ∈ x
  | [], c, h => by simp [joinC] at h
  | [x], c, h => Or.inr ⟨x, by simp, h⟩
  | x :: y :: l, c, h => by
    rw [joinC] at h
    rcases List.mem_append.1 h with h | h
    · exact Or.inr ⟨x, by simp, h⟩
    · rcases List.mem_cons.1 h with h | h
      · exact Or.inl h
      · rcases joinC_mem (y :: l) c h with h | ⟨z, hz, hc⟩
        · exact Or.inl h
        · exact Or.inr ⟨z, by simp at hz ⊢; exact Or.inr hz, hc⟩
theorem row_small (ns : List Nat) (hn : ∀ n ∈ ns, n < 65536) (c : UInt8) (hc : c ∈ tellRow ns) : c.toNat < 65 ∨ 70 < c.toNat := by
  rw [tellRow_C] at hc
  rcases joinC_mem _ c hc with rfl | ⟨x, hx, hcx⟩
  · decide
  · rw [toldRow_fst] at hx
    obtain ⟨n, hm, rfl⟩ := List.mem_map.1 hx
    obtain ⟨d, hd, rfl⟩ := digs_mem 16 (by omega) 3 n (hn n hm) c hcx
    exact hexL_small ⟨d, hd⟩
theorem want_small (ns : List Nat) (hn : ∀ n ∈ ns, n < 65536) (c : UInt8) (hc : c ∈ sixWant ns) : c.toNat < 65 ∨ 70 < c.toNat := by
  unfold sixWant sixTell at hc
  split at hc
  · simp at hc
    rcases hc with rfl | hc | rfl
    · decide
    · exact row_small ns hn c hc
    · decide
  · simp at hc
    rcases hc with rfl | hc | rfl | hc | rfl
    · decide
    · exact row_small _ (fun n hm => hn n (List.mem_of_mem_take hm)) c hc
    · decide
    · exact row_small _ (fun n hm => hn n (List.mem_of_mem_drop hm)) c hc
    · decide
end Go.Moor
/-
  Plain mathematics for eight pieces in full, a nought ahead of the short ones at even places.
-/
namespace Go.Moor
open Go

def wholeTxt (i n : Nat) : List UInt8 := if (digsF 16 3 n).length < 4 ∧ i % 2 = 0 then 48 :: digsF 16 3 n else digsF 16 3 n
def wholeRow (ns : List Nat) : List (List UInt8 × Nat) := ns.zipIdx.map fun y => (wholeTxt y.2 y.1, y.1)
theorem whole_reads (ns : List Nat) (hn : ∀ n ∈ ns, n < 65536) : readsAs (wholeRow ns) := by
  intro y hy
  obtain ⟨z, hz, rfl⟩ := List.mem_map.1 hy
  have hm : z.1 ∈ ns := List.fst_mem_of_mem_zipIdx hz
  show plainTxt (wholeTxt z.2 z.1) ∧ sixPiece (wholeTxt z.2 z.1) = some (z.1 : Int) ∧ ¬ 0 ≤ Lib.indexByte (wholeTxt z.2 z.1) 46
  unfold wholeTxt
  split
  · rename_i h
    exact piece_reads0 z.1 (hn z.1 hm) h.1
  · exact piece_reads z.1 (hn z.1 hm)
theorem wholeRow_snd (ns : List Nat) : ((wholeRow ns).map fun y => (y.2 : Int)) = ns.map fun n : Nat => (n : Int) := by
  unfold wholeRow
  rw [List.map_map]
  show ns.zipIdx.map ((fun n : Nat => (n : Int)) ∘ Prod.fst) = _
  rw [← List.map_map, List.zipIdx_map_fst]
theorem sixOf_wholeRow (ns : List Nat) (h8 : ns.length = 8) (hn : ∀ n ∈ ns, n < 65536) : sixOf (joinC ((wholeRow ns).map (·.1))) = some (ns.map fun n : Nat => (n : Int)) := by
  rw [sixOf_full _ (whole_reads ns hn) (by simp [wholeRow, h8]), wholeRow_snd]

/-- The four hosts that are made of eight pieces, behind their bracket: each is told in one way. -/
theorem want_whole (ns : List Nat) (h8 : ns.length = 8) (hn : ∀ n ∈ ns, n < 65536) : bracketed (joinC ((wholeRow ns).map (·.1)) ++ [93]) = some (sixWant ns) := bracketed_of _ ns (sixOf_wholeRow ns h8 hn)
theorem want_gap (ns : List Nat) (s l : Nat) (h8 : ns.length = 8) (hn : ∀ n ∈ ns, n < 65536) (hl : s + l ≤ 8) (hl1 : 1 ≤ l) (h : ∀ j, s ≤ j → j < s + l → ns[j]? = some 0) :
    bracketed ((tellRow (ns.take s) ++ 58 :: 58 :: tellRow (ns.drop (s + l))) ++ [93]) = some (sixWant ns) := bracketed_of _ ns (sixOf_gap ns s l h8 hn hl hl1 h)
theorem want_dots (ns : List Nat) (n : Nat) (h6 : ns.length = 6) (hs : ∀ k ∈ ns, k < 65536) (hn : n < 4294967296) :
    bracketed (joinC (ns.map pieceTxt ++ [tell4 n]) ++ [93]) = some (sixWant (ns ++ [n / 65536, n % 65536])) := bracketed_of _ _ (sixOf_dots ns n h6 hs hn)
theorem want_told (ns : List Nat) (h8 : ns.length = 8) (hn : ∀ n ∈ ns, n < 65536) : bracketed ((sixWant ns).drop 1) = some (sixWant ns) := bracketed_of _ ns (sixOf_told ns h8 hn)
end Go.Moor
/-
  Plain mathematics: what is told of hosts is told again as itself; what bytes stand in it; hosts with brackets in the wrong place are none.
-/
namespace Go.Moor
open Go

-- bytes
theorem badS_fin : ∀ c : Fin 256, badS c.val.toUInt8 = false → 33 ≤ c.val ∧ c.val ≤ 126 ∧ c.val ≠ 35 ∧ c.val ≠ 47 ∧ c.val ≠ 63 ∧ c.val ≠ 64 ∧ c.val ≠ 92 ∧ c.val ≠ 124 ∧ c.val ≠ 58 ∧ c.val ≠ 91 ∧ c.val ≠ 37 ∧ badS (Lib.lowerB c.val.toUInt8) = false := by decide +kernel
theorem badS_out (c : UInt8) (h : badS c = false) : (33 ≤ c.toNat ∧ c.toNat ≤ 126 ∧ c ≠ 35 ∧ c ≠ 47 ∧ c ≠ 63 ∧ c ≠ 64 ∧ c ≠ 92 ∧ c ≠ 124) ∧ c ≠ 58 ∧ c ≠ 91 ∧ c ≠ 37 ∧ badS (Lib.lowerB c) = false := by
  have := badS_fin ⟨c.toNat, c.toNat_lt⟩ (by simpa using h)
  obtain ⟨h1, h2, h3, h4, h5, h6, h7, h8, h9, h10, h11, h12⟩ := this
  exact ⟨⟨h1, h2, ne_toNat c 35 h3 (by omega), ne_toNat c 47 h4 (by omega), ne_toNat c 63 h5 (by omega), ne_toNat c 64 h6 (by omega), ne_toNat c 92 h7 (by omega), ne_toNat c 124 h8 (by omega)⟩, ne_toNat c 58 h9 (by omega), ne_toNat c 91 h10 (by omega), ne_toNat c 37 h11 (by omega), by simpa using h12⟩
theorem badP_fin : ∀ c : Fin 256, badP c.val.toUInt8 = false → holdsB 0 c.val = false → 33 ≤ c.val ∧ c.val ≤ 126 ∧ c.val ≠ 35 ∧ c.val ≠ 47 ∧ c.val ≠ 63 ∧ c.val ≠ 64 ∧ c.val ≠ 92 ∧ c.val ≠ 124 ∧ c.val ≠ 58 ∧ c.val ≠ 91 := by decide +kernel
theorem badP_out (c : UInt8) (h : badP c = false) (h0 : holdsB 0 c.toNat = false) : (33 ≤ c.toNat ∧ c.toNat ≤ 126 ∧ c ≠ 35 ∧ c ≠ 47 ∧ c ≠ 63 ∧ c ≠ 64 ∧ c ≠ 92 ∧ c ≠ 124) ∧ c ≠ 58 ∧ c ≠ 91 := by
  have := badP_fin ⟨c.toNat, c.toNat_lt⟩ (by simpa using h) h0
  obtain ⟨h1, h2, h3, h4, h5, h6, h7, h8, h9, h10⟩ := this
  exact ⟨⟨h1, h2, ne_toNat c 35 h3 (by omega), ne_toNat c 47 h4 (by omega), ne_toNat c 63 h5 (by omega), ne_toNat c 64 h6 (by omega), ne_toNat c 92 h7 (by omega), ne_toNat c 124 h8 (by omega)⟩, ne_toNat c 58 h9 (by omega), ne_toNat c 91 h10 (by omega)⟩
theorem capP : ∀ k : Fin 16, badP (hexCap k.val) = false ∧ holdsB 0 (hexCap k.val).toNat = false := by decide +kernel
theorem pctP : badP 37 = false ∧ holdsB 0 (37 : UInt8).toNat = false := by decide +kernel
theorem hexL_out : ∀ d : Fin 16, (33 ≤ (hexL d.val).toNat ∧ (hexL d.val).toNat ≤ 126 ∧ hexL d.val ≠ 35 ∧ hexL d.val ≠ 47 ∧ hexL d.val ≠ 63 ∧ hexL d.val ≠ 64 ∧ hexL d.val ≠ 92 ∧ hexL d.val ≠ 124) ∧ hexL d.val ≠ 93 := by decide +kernel
theorem okT_out_fin : ∀ c : Fin 256, okT c.val.toUInt8 = true → 33 ≤ c.val ∧ c.val ≤ 126 ∧ c.val ≠ 35 ∧ c.val ≠ 47 ∧ c.val ≠ 63 ∧ c.val ≠ 64 ∧ c.val ≠ 92 ∧ c.val ≠ 124 ∧ c.val ≠ 58 ∧ c.val ≠ 91 := by decide +kernel
theorem okT_out (c : UInt8) (h : okT c = true) : (33 ≤ c.toNat ∧ c.toNat ≤ 126 ∧ c ≠ 35 ∧ c ≠ 47 ∧ c ≠ 63 ∧ c ≠ 64 ∧ c ≠ 92 ∧ c ≠ 124) ∧ c ≠ 58 ∧ c ≠ 91 := by
  have := okT_out_fin ⟨c.toNat, c.toNat_lt⟩ (by simpa using h)
  obtain ⟨h1, h2, h3, h4, h5, h6, h7, h8, h9, h10⟩ := this
  exact ⟨⟨h1, h2, ne_toNat c 35 h3 (by omega), ne_toNat c 47 h4 (by omega), ne_toNat c 63 h5 (by omega), ne_toNat c 64 h6 (by omega), ne_toNat c 92 h7 (by omega), ne_toNat c 124 h8 (by omega)⟩, ne_toNat c 58 h9 (by omega), ne_toNat c 91 h10 (by omega)⟩

-- an IP4, told
theorem numTxt_dec (n : Nat) (hn : n < 256) : numTxt 2 n = Lib.decDigits n := by
  have h : (256 : Nat) ≤ 10 ^ (31 + 1) := by decide
  exact digs_dec 31 n (Nat.lt_of_lt_of_le hn h)
theorem tell4_dots (n : Nat) (hn : n < 4294967296) : tell4 n = joinDots [numTxt 2 (n / 16777216), numTxt 2 (n / 65536 % 256), numTxt 2 (n / 256 % 256), numTxt 2 (n % 256)] := by
  unfold tell4
  rw [join_D]
  have e0 : byte4 n 0 = n / 16777216 := by unfold byte4; omega
  have e1 : byte4 n 1 = n / 65536 % 256 := by unfold byte4; omega
  have e2 : byte4 n 2 = n / 256 % 256 := by unfold byte4; omega
  have e3 : byte4 n 3 = n % 256 := by unfold byte4; omega
  rw [e0, e1, e2, e3, numTxt_dec _ (by omega), numTxt_dec _ (by omega), numTxt_dec _ (by omega), numTxt_dec _ (by omega)]
theorem tell4_bytes (n : Nat) (hn : n < 4294967296) : tell4 n ≠ [] ∧ ∀ c ∈ tell4 n, c = 46 ∨ okT c = true := by
  rw [tell4_dots n hn]
  refine ⟨joinDots_ne _ (by simp) ?_, fun c hc => ?_⟩
  · intro x hx
    simp only [List.mem_cons, List.not_mem_nil, or_false] at hx
    rcases hx with rfl | rfl | rfl | rfl <;> exact num_ne _ _ (by omega)
  · rcases joinDots_mem _ c hc with h | ⟨x, hx, hcx⟩
    · exact Or.inl h
    · right
      simp only [List.mem_cons, List.not_mem_nil, or_false] at hx
      rcases hx with rfl | rfl | rfl | rfl <;> exact num_ok _ _ (by omega) c hcx
theorem tell4_host (n : Nat) (hn : n < 4294967296) : hostSpecial (unesc (tell4 n)) = some (tell4 n) := by
  conv => lhs; rw [tell4_dots n hn]
  exact four_labels 2 2 2 2 n hn

theorem no91 (l : Bs) (h : ∀ c ∈ l, c ≠ 91) : Lib.hasPrefix l [91] = false := nopfx l h
theorem pfx91 (l : Bs) : Lib.hasPrefix l [91] = true ↔ l.head? = some 91 := by
  cases l with
  | nil => simp [Lib.hasPrefix]
  | cons c l =>
    simp [Lib.hasPrefix, List.isPrefixOf]
    exact ⟨fun h => h.symm, fun h => h.symm⟩

theorem sixTell_bytes (ns : List Nat) (hn : ∀ n ∈ ns, n < 65536) : ∀ c ∈ sixTell ns, c = 58 ∨ ∃ d : Fin 16, c = hexL d.val := by
  have hrow : ∀ ms : List Nat, (∀ n ∈ ms, n < 65536) → ∀ c ∈ tellRow ms, c = 58 ∨ ∃ d : Fin 16, c = hexL d.val := by
    intro ms hm c hc
    rw [tellRow_C] at hc
    rcases joinC_mem _ c hc with h | ⟨x, hx, hcx⟩
    · exact Or.inl h
    · right
      rw [toldRow_fst] at hx
      obtain ⟨n, hn2, rfl⟩ := List.mem_map.1 hx
      obtain ⟨d, hd, rfl⟩ := digs_mem 16 (by omega) 3 n (by have := hm n hn2; omega) c hcx
      exact ⟨⟨d, hd⟩, rfl⟩
  intro c hc
  unfold sixTell at hc
  split at hc
  · exact hrow ns hn c hc
  · rcases List.mem_append.1 hc with hc | hc
    · exact hrow _ (fun n h => hn n (List.mem_of_mem_take h)) c hc
    · rcases List.mem_append.1 hc with hc | hc
      · simp at hc; exact Or.inl hc
      · exact hrow _ (fun n h => hn n (List.mem_of_mem_drop h)) c hc
theorem bracketed_form (l h : Bs) (hb : bracketed l = some h) : ∃ ns : List Nat, ns.length = 8 ∧ (∀ n ∈ ns, n < 65536) ∧ h = sixWant ns := by
  unfold bracketed at hb
  split at hb
  · cases hs : sixOf (Lib.trimSuffix l [93]) with
    | none => rw [hs] at hb; cases hb
    | some ps =>
      rw [hs] at hb
      simp only [Option.some.injEq] at hb
      have hok := sixOf_ok _ ps hs
      refine ⟨ps.map Int.toNat, by simp [hok.1], fun n hn => ?_, hb.symm⟩
      obtain ⟨p, hp, rfl⟩ := List.mem_map.1 hn
      have := hok.2 p hp
      unfold okPiece at this
      omega
  · cases hb

theorem hostTell_cases (t : Bs) (sp : Bool) (h : Bs) (ht : hostTell t sp = some h) :
    (t.head? = some 91 ∧ ∃ ns : List Nat, ns.length = 8 ∧ (∀ n ∈ ns, n < 65536) ∧ h = sixWant ns) ∨ (sp = false ∧ t.any badP = false ∧ h = esc 0 t) ∨
    (sp = true ∧ unesc t ≠ [] ∧ (unesc t).any badS = false ∧ ((∃ n, n < 4294967296 ∧ h = tell4 n) ∨ (numLabel ((labels (Lib.toLowerA (unesc t))).getLastD []) = false ∧ h = Lib.toLowerA (unesc t)))) := by
  unfold hostTell at ht
  split at ht
  · rename_i hp
    exact Or.inl ⟨(pfx91 t).1 hp, bracketed_form _ h ht⟩
  · cases sp with
    | false =>
      right; left
      simp only [Bool.false_eq_true, if_false] at ht
      unfold hostPlain at ht
      split at ht
      · cases ht
      · rename_i hb
        simp only [Option.some.injEq] at ht
        exact ⟨rfl, by simpa using hb, ht.symm⟩
    | true =>
      right; right
      simp only [if_true] at ht
      unfold hostSpecial at ht
      split at ht
      · cases ht
      · rename_i hne
        split at ht
        · cases ht
        · rename_i hb
          refine ⟨rfl, hne, by simpa using hb, ?_⟩
          split at ht
          · left
            cases hi : ip4 (labels (Lib.toLowerA (unesc t))) with
            | none => rw [hi] at ht; cases ht
            | some a =>
              rw [hi] at ht
              simp only [Option.map_some, Option.some.injEq] at ht
              have hr := ip4_range _ a (labels_ne _) hi
              exact ⟨a.toNat, by omega, ht.symm⟩
          · rename_i hnl
            simp only [Option.some.injEq] at ht
            exact Or.inr ⟨by simpa using hnl, ht.symm⟩

theorem not_any (p : UInt8 → Bool) (l : Bs) : l.any p = false ↔ ∀ c ∈ l, p c = false := by
  rw [List.any_eq_false]
  simp

theorem plain_esc (t : Bs) (hb : t.any badP = false) : ∀ c ∈ esc 0 t, badP c = false ∧ holdsB 0 c.toNat = false := by
  intro c hc
  rcases esc_mem 0 t c hc with ⟨h1, h2⟩ | rfl | ⟨k, rfl⟩
  · exact ⟨(not_any _ _).1 hb c h1, h2⟩
  · exact pctP
  · exact capP k
theorem lower_good (x : Bs) (hb : x.any badS = false) : ∀ c ∈ Lib.toLowerA x, badS c = false := by
  intro c hc
  obtain ⟨d, hd, rfl⟩ := List.mem_map.1 hc
  exact (badS_out d ((not_any _ _).1 hb d hd)).2.2.2.2

theorem hostLaws : HostLaws hostTell := by
  refine ⟨?_, ?_, ?_, ?_, by decide +kernel, ?_⟩
  · intro t sp h ht
    rcases hostTell_cases t sp h ht with ⟨_, ns, h8, hn, rfl⟩ | ⟨rfl, hb, rfl⟩ | ⟨rfl, hne, hb, ⟨n, hn, rfl⟩ | ⟨hnl, rfl⟩⟩
    · unfold hostTell
      rw [if_pos (show Lib.hasPrefix (sixWant ns) [91] = true from rfl)]
      exact want_told ns h8 hn
    · have hp := plain_esc t hb
      unfold hostTell
      rw [no91 _ (fun c hc => (badP_out c (hp c hc).1 (hp c hc).2).2.2)]
      simp only [Bool.false_eq_true, if_false]
      unfold hostPlain
      rw [if_neg (by rw [(not_any _ _).2 (fun c hc => (hp c hc).1)]; simp), esc_same 0 _ (fun c hc => (hp c hc).2)]
    · have hbt := tell4_bytes n hn
      have h91 : ∀ c ∈ tell4 n, c ≠ 91 := fun c hc => by
        rcases hbt.2 c hc with rfl | h
        · decide
        · exact (okT_out c h).2.2
      unfold hostTell
      rw [no91 _ h91]
      simp only [Bool.false_eq_true, if_false, if_true]
      exact tell4_host n hn
    · have hg := lower_good _ hb
      unfold hostTell
      rw [no91 _ (fun c hc => (badS_out c (hg c hc)).2.2.1)]
      simp only [Bool.false_eq_true, if_false, if_true]
      rw [unesc_plain _ (fun c hc => (badS_out c (hg c hc)).2.2.2.1)]
      unfold hostSpecial
      rw [if_neg (by unfold Lib.toLowerA; simpa using hne), if_neg (by rw [(not_any _ _).2 hg]; simp), lower_lower, if_neg (by rw [hnl]; simp)]
  · intro t sp h ht
    rcases hostTell_cases t sp h ht with ⟨_, ns, h8, hn, rfl⟩ | ⟨rfl, hb, rfl⟩ | ⟨rfl, hne, hb, ⟨n, hn, rfl⟩ | ⟨hnl, rfl⟩⟩
    · intro c hc
      unfold sixWant at hc
      rcases List.mem_append.1 hc with hc | hc
      · rw [List.mem_singleton] at hc; subst hc; decide
      · rcases List.mem_append.1 hc with hc | hc
        · rcases sixTell_bytes ns hn c hc with rfl | ⟨d, rfl⟩
          · decide
          · exact (hexL_out d).1
        · rw [List.mem_singleton] at hc; subst hc; decide
    · exact fun c hc => (badP_out c (plain_esc t hb c hc).1 (plain_esc t hb c hc).2).1
    · intro c hc
      rcases (tell4_bytes n hn).2 c hc with rfl | h
      · decide
      · exact (okT_out c h).1
    · exact fun c hc => (badS_out c (lower_good _ hb c hc)).1
  · intro t sp h ht
    rcases hostTell_cases t sp h ht with ⟨_, ns, h8, hn, rfl⟩ | ⟨rfl, hb, rfl⟩ | ⟨rfl, hne, hb, ⟨n, hn, rfl⟩ | ⟨hnl, rfl⟩⟩
    · refine Or.inr ⟨sixTell ns, rfl, fun c hc => ?_⟩
      rcases sixTell_bytes ns hn c hc with rfl | ⟨d, rfl⟩
      · decide
      · exact (hexL_out d).2
    · exact Or.inl fun c hc => (badP_out c (plain_esc t hb c hc).1 (plain_esc t hb c hc).2).2
    · left
      intro c hc
      rcases (tell4_bytes n hn).2 c hc with rfl | h
      · decide
      · exact (okT_out c h).2
    · exact Or.inl fun c hc => ⟨(badS_out c (lower_good _ hb c hc)).2.1, (badS_out c (lower_good _ hb c hc)).2.2.1⟩
  · intro t h ht
    rcases hostTell_cases t true h ht with ⟨_, ns, h8, hn, rfl⟩ | ⟨hx, _⟩ | ⟨_, hne, hb, ⟨n, hn, rfl⟩ | ⟨hnl, rfl⟩⟩
    · unfold sixWant; simp
    · cases hx
    · exact (tell4_bytes n hn).1
    · unfold Lib.toLowerA; simpa using hne
  · intro t sp ht
    rcases hostTell_cases t sp [] ht with ⟨_, ns, h8, hn, he⟩ | ⟨rfl, hb, he⟩ | ⟨rfl, hne, hb, ⟨n, hn, he⟩ | ⟨hnl, he⟩⟩
    · unfold sixWant at he; simp at he
    · cases t with
      | nil => rfl
      | cons c t =>
        have := congrArg List.length he
        rw [esc_len] at this
        simp at this
        omega
    · exact absurd he.symm (tell4_bytes n hn).1
    · have := congrArg List.length he
      unfold Lib.toLowerA at this
      simp only [List.length_nil, List.length_map] at this
      exact absurd (List.length_eq_zero_iff.1 this.symm) hne

-- brackets in the wrong place
end Go.Moor
