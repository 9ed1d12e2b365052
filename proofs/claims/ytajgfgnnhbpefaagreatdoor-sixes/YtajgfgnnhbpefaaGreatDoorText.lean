/-
  What escape.Text answers: the text, each byte of the set escaped; nothing that was in memory turns.
-/
import Derived.Test.YtajgfgnnhbpefaaGreatDoorWalks2
namespace Go.Proofs
open Go.RowKit Go.Moor

theorem Tryz.sets_below {w w' : World} (h : Tryz.Sets w) (hb : Below w.heap.size w w') (hz : 6 < w.heap.size) : Tryz.Sets w' := by
  intro k hk
  rw [hb.cell (p := ⟨6, k, none⟩) hz]
  exact h k hk

def Tryz.caps : ByteArray := ⟨#[48, 49, 50, 51, 52, 53, 54, 55, 56, 57, 65, 66, 67, 68, 69, 70]⟩
theorem Tryz.cap_fin : ∀ n : Fin 16, Tryz.caps.data.toList.getD n.val 0 = hexCap n.val := by decide +kernel
theorem Tryz.cap_at (n : Nat) (h : n < Tryz.caps.size) : Tryz.caps[n] = hexCap n := by
  have h16 : n < 16 := h
  have := Tryz.cap_fin ⟨n, h16⟩
  show Tryz.caps.data.toList[n]'h = _
  rw [← this, List.getD_eq_getElem?_getD, List.getElem?_eq_getElem (by exact h)]
  rfl
theorem Tryz.cells_one (c : UInt8) : Lib.byteCells [c] = [.int .u8 c.toNat] := rfl

set_option maxHeartbeats 1000000 in
theorem Tryz.text_any (s : ByteArray) (set : Int) (w : World) (hs : s.size ≤ 35184372088832) (hset : Tryz.Sets w) (hz : 6 < w.heap.size) :
    Calls Tryz.prog 59 #[.string s, .int .i64 set] w fun e w' => e = .returned (.string ⟨(esc set s.data.toList).toArray⟩) ∧ Below w.heap.size w w' := by
  have HS : Hid (Tryz.Sets w) := hset
  clear hset
  go_enter Tryz.func59, Tryz.ntmps59
  go_wp2
  go_loopw [6] (fun i wr => ∃ k : Nat, k ≤ s.size ∧ i = .int .i64 k ∧ Lib.IsBuilderF 137 5 w.heap.size w.heap.size (Lib.byteCells (esc set (s.data.toList.take k))) wr ∧ Below w.heap.size w wr ∧ w.heap.size < wr.heap.size) (fun i _ => s.size - (intOf i).toNat)
  case atStart =>
    exact ⟨0, Nat.zero_le _, rfl, Lib.IsBuilderF.of (Lib.fresh_isBuilder 137 5 w), (Below.refl _ w).alloc (Nat.le_refl _) _, by simp⟩
  case round =>
    obtain ⟨k, hk, rfl, hI, hbw, hsz⟩ := hrel
    have hlen := esc_len set (s.data.toList.take k)
    have hcn := cnt_le set (s.data.toList.take k)
    have hl : (s.data.toList.take k).length ≤ k := List.length_take_le _ _
    have HL : Hid ((esc set (s.data.toList.take k)).length ≤ 3 * k) := by show _ ≤ _; omega
    clear hlen hcn hl
    by_cases hlt : k < s.size
    · have HSr : Hid (Tryz.Sets wr) := Tryz.sets_below HS.out hbw hz
      have HT : Hid (esc set (s.data.toList.take (k + 1)) = esc set (s.data.toList.take k) ++ escB set s[k]) := by show _ = _; rw [take_snoc s k hlt, esc_snoc]
      have hc := s[k].toNat_lt
      by_cases hh : holdsB set s[k].toNat = true
      · go_wp2_with (go_at_call 93; refine (Tryz.holds_any _ _ _ HSr.out).mono ?_; rintro e w' ⟨rfl, rfl⟩)
        refine (Tryz.Builder_WriteByte_k w.heap.size w.heap.size _ _ _ hI (by rw [Lib.byteCells_length]; have := HL.out; omega) (by omega)).mono ?_
        rintro e W1 ⟨rfl, h1, b1, _⟩
        have hI1 : Lib.IsBuilderF 137 5 w.heap.size w.heap.size (Lib.byteCells (esc set (s.data.toList.take k) ++ [37])) W1 := by rw [Lib.byteCells_append]; exact Or.inr h1
        have hb1 := hbw.trans b1
        have hz1 : w.heap.size < W1.heap.size := Nat.lt_of_lt_of_le hsz b1.size
        clear h1 b1
        go_wp2_with fail
        refine (Tryz.Builder_WriteByte_k w.heap.size w.heap.size _ _ _ hI1 (by rw [Lib.byteCells_length]; have := HL.out; simp; omega) (by omega)).mono ?_
        rintro e W2 ⟨rfl, h2, b2, _⟩
        have hI2 : Lib.IsBuilderF 137 5 w.heap.size w.heap.size (Lib.byteCells (esc set (s.data.toList.take k) ++ [37, hexCap (s[k].toNat / 16)])) W2 := by
          rw [show esc set (s.data.toList.take k) ++ [37, hexCap (s[k].toNat / 16)] = (esc set (s.data.toList.take k) ++ [37]) ++ [hexCap (s[k].toNat / 16)] by simp, Lib.byteCells_append, Tryz.cells_one, ← Tryz.cap_at (s[k].toNat / 16) (by show _ < 16; omega)]; exact Or.inr h2
        have hb2 := hb1.trans b2
        have hz2 : w.heap.size < W2.heap.size := Nat.lt_of_lt_of_le hz1 b2.size
        clear h2 b2 hI1 hb1 hz1
        go_wp2_with fail
        refine (Tryz.Builder_WriteByte_k w.heap.size w.heap.size _ _ _ hI2 (by rw [Lib.byteCells_length]; have := HL.out; simp; omega) (by omega)).mono ?_
        rintro e W3 ⟨rfl, h3, b3, _⟩
        have hI3 : Lib.IsBuilderF 137 5 w.heap.size w.heap.size (Lib.byteCells (esc set (s.data.toList.take (k + 1)))) W3 := by
          rw [HT.out, show escB set s[k] = [37, hexCap (s[k].toNat / 16)] ++ [hexCap (s[k].toNat % 16)] by simp [escB, hh], ← List.append_assoc, Lib.byteCells_append, Tryz.cells_one, ← Tryz.cap_at (s[k].toNat % 16) (by show _ < 16; omega)]; exact Or.inr h3
        have hb3 := hb2.trans b3
        have hz3 : w.heap.size < W3.heap.size := Nat.lt_of_lt_of_le hz2 b3.size
        clear h3 b3 hI2 hb2 hz2
        go_wp2
        go_roundw
        case rel => exact ⟨k + 1, by omega, by go_num, hI3, hb3, hz3⟩
        case measure => simp [intOf]; omega
      · have hh' : holdsB set s[k].toNat = false := Bool.eq_false_iff.2 hh
        clear hh
        go_wp2_with (go_at_call 93; refine (Tryz.holds_any _ _ _ HSr.out).mono ?_; rintro e w' ⟨rfl, rfl⟩)
        refine (Tryz.Builder_WriteByte_k w.heap.size w.heap.size _ _ _ hI (by rw [Lib.byteCells_length]; have := HL.out; omega) (by omega)).mono ?_
        rintro e W1 ⟨rfl, h1, b1, _⟩
        have hI1 : Lib.IsBuilderF 137 5 w.heap.size w.heap.size (Lib.byteCells (esc set (s.data.toList.take (k + 1)))) W1 := by
          rw [HT.out, show escB set s[k] = [s[k]] by simp [escB, hh'], Lib.byteCells_append]; exact Or.inr h1
        have hb1 := hbw.trans b1
        have hz1 : w.heap.size < W1.heap.size := Nat.lt_of_lt_of_le hsz b1.size
        clear h1 b1
        go_wp2
        go_roundw
        case rel => exact ⟨k + 1, by omega, by go_num, hI1, hb1, hz1⟩
        case measure => simp [intOf]; omega
    · go_wp2_with (go_at_call 92; refine (Tryz.Builder_String_any_k w.heap.size w.heap.size _ _ hI (by omega)).mono ?_)
      rintro e W1 ⟨rfl, _, b1, _⟩
      go_wp2
      go_ret
      rw [List.take_of_length_le (by simp; omega)]
      exact ⟨rfl, hbw.trans b1⟩

set_option maxHeartbeats 400000 in
theorem Tryz.escape_any (s : ByteArray) (set : Int) (w : World) (hs : s.size ≤ 35184372088832) (hset : Tryz.Sets w) (hz : 6 < w.heap.size) :
    Calls Tryz.prog 35 #[.string s, .int .i64 set] w fun e w' => e = .returned (.string ⟨(esc set s.data.toList).toArray⟩) ∧ Below w.heap.size w w' := by
  go_enter Tryz.func35, Tryz.ntmps35
  go_wp2_with (go_at_call 59; refine (Tryz.text_any _ _ _ hs hset hz).mono ?_)
  rintro e w' ⟨rfl, hb⟩
  go_wp2
  go_ret
  exact ⟨rfl, hb⟩
end Go.Proofs
