/-
  Plain mathematics for eight pieces in full, a nought ahead of the short ones at even places.
-/
import Derived.Test.YtkcnageeamappaaGreatDoorSxTold
namespace Go.Moor
open Go

def wholeTxt (i n : Nat) : List UInt8 := if (digsF 16 3 n).length < 4 ∧ i % 2 = 0 then 48 :: digsF 16 3 n else digsF 16 3 n
def wholeRow (ns : List Nat) : List (List UInt8 × Nat) := ns.zipIdx.map fun y => (wholeTxt y.2 y.1, y.1)
theorem whole_reads (ns : List Nat) (hn : ∀ n ∈ ns, n < 65536) : readsAs (wholeRow ns) := by
  intro y hy
  obtain ⟨z, hz, rfl⟩ := List.mem_map.1 hy
  have hm : z.1 ∈ ns := List.fst_mem_of_mem_zipIdx hz
  show plainTxt (wholeTxt z.2 z.1) ∧ sixPiece (wholeTxt z.2 z.1) = some (z.1 : Int) ∧ ¬ 0 ≤ Lib.indexByte (wholeTxt z.2 z.1) 46
  unfold wholeTxt
  split
  · rename_i h
    exact piece_reads0 z.1 (hn z.1 hm) h.1
  · exact piece_reads z.1 (hn z.1 hm)
theorem wholeRow_snd (ns : List Nat) : ((wholeRow ns).map fun y => (y.2 : Int)) = ns.map fun n : Nat => (n : Int) := by
  unfold wholeRow
  rw [List.map_map]
  show ns.zipIdx.map ((fun n : Nat => (n : Int)) ∘ Prod.fst) = _
  rw [← List.map_map, List.zipIdx_map_fst]
theorem sixOf_wholeRow (ns : List Nat) (h8 : ns.length = 8) (hn : ∀ n ∈ ns, n < 65536) : sixOf (joinC ((wholeRow ns).map (·.1))) = some (ns.map fun n : Nat => (n : Int)) := by
  rw [sixOf_full _ (whole_reads ns hn) (by simp [wholeRow, h8]), wholeRow_snd]

/-- The four hosts that are made of eight pieces, behind their bracket: each is told in one way. -/
theorem want_whole (ns : List Nat) (h8 : ns.length = 8) (hn : ∀ n ∈ ns, n < 65536) : bracketed (joinC ((wholeRow ns).map (·.1)) ++ [93]) = some (sixWant ns) := bracketed_of _ ns (sixOf_wholeRow ns h8 hn)
theorem want_gap (ns : List Nat) (s l : Nat) (h8 : ns.length = 8) (hn : ∀ n ∈ ns, n < 65536) (hl : s + l ≤ 8) (hl1 : 1 ≤ l) (h : ∀ j, s ≤ j → j < s + l → ns[j]? = some 0) :
    bracketed ((tellRow (ns.take s) ++ 58 :: 58 :: tellRow (ns.drop (s + l))) ++ [93]) = some (sixWant ns) := bracketed_of _ ns (sixOf_gap ns s l h8 hn hl hl1 h)
theorem want_dots (ns : List Nat) (n : Nat) (h6 : ns.length = 6) (hs : ∀ k ∈ ns, k < 65536) (hn : n < 4294967296) :
    bracketed (joinC (ns.map pieceTxt ++ [tell4 n]) ++ [93]) = some (sixWant (ns ++ [n / 65536, n % 65536])) := bracketed_of _ _ (sixOf_dots ns n h6 hs hn)
theorem want_told (ns : List Nat) (h8 : ns.length = 8) (hn : ∀ n ∈ ns, n < 65536) : bracketed ((sixWant ns).drop 1) = some (sixWant ns) := bracketed_of _ ns (sixOf_told ns h8 hn)
end Go.Moor
