/-
  Plain mathematics for six pieces and an IP4's end.
-/
import Derived.Test.YtkcnageeamappaaGreatDoorSxTexts
namespace Go.Moor
open Go

theorem dec_plain (b : Nat) (hb : b < 256) : plainDec (Lib.decDigits b) = some (b : Int) ∧ (∀ c ∈ Lib.decDigits b, c ≠ 58 ∧ c ≠ 46) ∧ Lib.decDigits b ≠ [] := by
  rw [← digs_dec 2 b (by omega)]
  obtain ⟨d, r, he, hd, h0, h1⟩ := digs_head 10 (by omega) 2 b (by omega)
  have hne : digsF 10 2 b ≠ [] := by rw [he]; simp
  refine ⟨?_, fun c hc => ?_, hne⟩
  · unfold plainDec
    rw [if_neg hne, if_neg]
    · exact digs_val 10 255 (by omega) (by omega) 2 b (by omega) (by omega)
    · rintro ⟨h2, h3⟩
      rw [he] at h2 h3
      simp at h2 h3
      by_cases hd0 : d = 0
      · rw [h1 hd0] at h3; simp at h3
      · exact hexL_ne48 ⟨d, by omega⟩ hd0 h2
  · obtain ⟨e, hed, rfl⟩ := digs_mem 10 (by omega) 2 b (by omega) c hc
    exact hexL_plain ⟨e, by omega⟩

theorem join_D : ∀ ls : List (List UInt8), Lib.join ls [46] = joinDots ls
  | [] => rfl
  | [x] => Lib.join_one x [46]
  | x :: y :: l => by
    have ih := join_D (y :: l)
    rw [Lib.join_cons] at ih ⊢
    rw [joinDots, ← ih]
    simp [Lib.joinTail]

theorem four_bytes (n : Nat) (hn : n < 4294967296) : ((byte4 n 0 * 256 + byte4 n 1) * 256 + byte4 n 2) * 256 + byte4 n 3 = n := by
  have e0 : byte4 n 0 = n / 16777216 % 256 := rfl
  have e1 : byte4 n 1 = n / 65536 % 256 := rfl
  have e2 : byte4 n 2 = n / 256 % 256 := rfl
  have e3 : byte4 n 3 = n / 1 % 256 := rfl
  rw [e0, e1, e2, e3]
  omega

theorem dotted_tell4 (n : Nat) (hn : n < 4294967296) : sixDotted (tell4 n) = some (n : Int) ∧ plainTxt (tell4 n) ∧ 0 ≤ Lib.indexByte (tell4 n) 46 := by
  have h0 := dec_plain (byte4 n 0) (byte4_lt n 0)
  have h1 := dec_plain (byte4 n 1) (byte4_lt n 1)
  have h2 := dec_plain (byte4 n 2) (byte4_lt n 2)
  have h3 := dec_plain (byte4 n 3) (byte4_lt n 3)
  have ht : tell4 n = joinDots [Lib.decDigits (byte4 n 0), Lib.decDigits (byte4 n 1), Lib.decDigits (byte4 n 2), Lib.decDigits (byte4 n 3)] := join_D _
  have hm : ∀ x ∈ [Lib.decDigits (byte4 n 0), Lib.decDigits (byte4 n 1), Lib.decDigits (byte4 n 2), Lib.decDigits (byte4 n 3)], ∀ c ∈ x, c ≠ 58 ∧ c ≠ 46 := by
    intro x hx
    simp at hx
    rcases hx with rfl | rfl | rfl | rfl
    · exact h0.2.1
    · exact h1.2.1
    · exact h2.2.1
    · exact h3.2.1
  have hs : splitOn 46 (tell4 n) = [Lib.decDigits (byte4 n 0), Lib.decDigits (byte4 n 1), Lib.decDigits (byte4 n 2), Lib.decDigits (byte4 n 3)] := by
    rw [ht]
    exact split_joinDots _ (by simp) fun x hx c hc => (hm x hx c hc).2
  refine ⟨?_, ⟨?_, ?_⟩, ?_⟩
  · unfold sixDotted
    rw [hs, if_pos (by rfl)]
    simp only [dotAcc, h0.1, h1.1, h2.1, h3.1]
    have := four_bytes n hn
    congr 1
    omega
  · rw [ht]; simp [joinDots]
  · intro c hc
    rw [ht] at hc
    rcases joinDots_mem _ c hc with rfl | ⟨x, hx, hcx⟩
    · decide
    · exact (hm x hx c hcx).1
  · rcases indexByte_split 46 (tell4 n) with ⟨_, h⟩ | ⟨p, r, _, _, h⟩
    · exact absurd rfl (h 46 (by rw [ht]; simp [joinDots]))
    · rw [h]; omega

/-- Six pieces, and numbers with dots for two. -/
theorem sixOf_dots (ns : List Nat) (n : Nat) (h6 : ns.length = 6) (hs : ∀ k ∈ ns, k < 65536) (hn : n < 4294967296) :
    sixOf (joinC (ns.map pieceTxt ++ [tell4 n])) = some ((ns ++ [n / 65536, n % 65536]).map fun n : Nat => (n : Int)) := by
  obtain ⟨hd1, hd2, hd3⟩ := dotted_tell4 n hn
  have hr := toldRow_reads ns hs
  have hp : ∀ x ∈ ns.map pieceTxt ++ [tell4 n], plainTxt x := by
    intro x hx
    rcases List.mem_append.1 hx with hx | hx
    · obtain ⟨k, hk, rfl⟩ := List.mem_map.1 hx
      exact (piece_reads k (hs k hk)).1
    · simp at hx; subst hx; exact hd2
  have hc := cc_joinC [] rfl _ hp
  rw [List.append_nil] at hc
  have hne : joinC (ns.map pieceTxt ++ [tell4 n]) ≠ [] := by
    intro e
    have := split_joinC _ (by simp) fun x hx => (hp x hx).2
    rw [e] at this
    have := congrArg List.length this
    simp [splitOn, h6] at this
  unfold sixOf
  rw [cut_none _ hc]
  simp only []
  rw [show sixPieces (sixSplit []) = some [] from rfl]
  have hsp : sixSplit (joinC (ns.map pieceTxt ++ [tell4 n])) = ns.map pieceTxt ++ [tell4 n] := by
    unfold sixSplit
    rw [if_neg hne]
    exact split_joinC _ (by simp) fun x hx => (hp x hx).2
  have hl : sixLast (ns.map pieceTxt ++ [tell4 n]) = some ((ns ++ [n / 65536, n % 65536]).map fun n : Nat => (n : Int)) := by
    unfold sixLast
    rw [List.getLast?_append]
    simp only [List.getLast?_singleton, Option.some_or, hd3, if_true, List.dropLast_concat]
    rw [← toldRow_fst, show sixPieces ((toldRow ns).map (·.1)) = some ((toldRow ns).map fun y => (y.2 : Int)) from sixAcc_reads _ [] hr, hd1, toldRow_snd]
    simp [sixJoin]
  rw [hsp, hl]
  simp [sixFill, h6]
end Go.Moor
