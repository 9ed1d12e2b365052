/-
  What strconv.FormatUint answers by base 10 of a number below 256, and what host.tellIP4 tells.
-/
import Derived.Test.YtkcnageeamappaaGreatDoorEnv
import Derived.Lib.ItoaMem
import Derived.Lib.AppendIntMem
namespace Go.Proofs
open Go.RowKit Go.Moor Go.Sort

set_option maxHeartbeats 1000000 in
theorem Tryz.fmt10_small (i : Nat) (h : i < 100) (w : World) :
    Calls Tryz.prog 239 #[.int .u64 i, .int .i64 10] w fun e w' => e = .returned (.string ⟨(Lib.decDigits i).toArray⟩) ∧ w' = w := by
  go_enter Tryz.func239, Tryz.ntmps239
  go_wp2_with (go_at_call 254; refine (Tryz.internal_strconv_small i h _).mono ?_; rintro e w' ⟨rfl, rfl⟩)
  go_ret
  exact ⟨rfl, rfl⟩

theorem holds_zero0 (w : World) (T : TypeId) : Holds (fun (b : UInt8) => Value.int .u8 (b.toNat : Int)) (w.alloc (.cells Lib.zeros24 T)) w.heap.size 0 (Array.replicate 3 (0 : UInt8)) := fun j hj => by
  have hj' : j < 3 := by simpa using hj
  refine ⟨?_, World.frozen?_alloc_new _ _ _ _⟩
  rw [World.cell?_alloc_new, Lib.zeros24_at _ (by omega), getElem!_pos _ j hj]
  simp

set_option maxHeartbeats 2000000 in
set_option maxRecDepth 100000 in
theorem Tryz.fmt10_three (u : Nat) (h1 : 100 ≤ u) (h2 : u < 256) (w : World) (htab : Lib.TabIs Tryz.prog w "internal/strconv.uint64pow10" .u64 Lib.pow10Tab) :
    Calls Tryz.prog 239 #[.int .u64 u, .int .i64 10] w fun e w' => e = .returned (.string ⟨(Lib.decDigits u).toArray⟩) ∧ Below w.heap.size w w' := by
  have hnd : Lib.nDigits u = 3 := Lib.nDigits_unique 2 u (by omega) (by omega)
  have hdl : (Lib.decDigits u).length = 3 := by rw [Lib.decDigits_length, hnd]
  have hH0 := holds_zero0 w 259
  have hfmt := Tryz.internal_strconv_formatBase10 w.heap.size 0 24 u (Array.replicate 3 0) (w.alloc (.cells Lib.zeros24 259)) hH0 (by rw [Array.size_replicate]; omega) (by omega) (by rw [Array.size_replicate]; omega)
  rw [Array.size_replicate] at hfmt
  have HF0 : Hid (Calls Tryz.prog 256 #[.slice (some ⟨w.heap.size, 0, none⟩) 3 24, .int .u64 u] (w.alloc (.cells Lib.zeros24 259)) fun e w' => e = .returned (.tuple #[]) ∧ ∃ (n v' : Nat) (dk : Array UInt8), w' = (putRow (fun (b : UInt8) => Value.int .u8 (b.toNat : Int)) (w.alloc (.cells Lib.zeros24 259)) w.heap.size 0 dk).drewN n ∧ Lib.FmtInv 3 u 0 v' dk) := hfmt
  have HH0 : Hid (Holds (fun (b : UInt8) => Value.int .u8 (b.toNat : Int)) (w.alloc (.cells Lib.zeros24 259)) w.heap.size 0 (Array.replicate 3 (0 : UInt8))) := hH0
  have HND : Hid (Lib.nDigits u = 3) := hnd
  have HDL : Hid ((Lib.decDigits u).length = 3) := hdl
  have HNC : Hid (Calls Tryz.prog 255 #[.int .u64 u] (w.alloc (.cells Lib.zeros24 259)) fun e w' => e = .returned (.int .i64 3) ∧ w' = w.alloc (.cells Lib.zeros24 259)) := by
    have := Tryz.internal_strconv_numDigits u (by omega) (by omega) (w.alloc (.cells Lib.zeros24 259)) (Lib.tabIs_alloc htab _)
    rw [hnd] at this
    exact this
  clear hfmt hH0 hnd hdl
  go_enter Tryz.func239, Tryz.ntmps239
  go_wp2_with fail
  refine HNC.out.mono ?_
  rintro e w' ⟨rfl, rfl⟩
  go_wp2_with fail
  refine HF0.out.mono ?_
  rintro e w' ⟨rfl, k, v', dk, rfl, hF⟩
  have HFI : Hid (Lib.FmtInv 3 u 0 v' dk) := hF
  clear hF
  have hcv : (convert 47 9 (.slice (some ⟨w.heap.size, 0, none⟩) 3 24)).run Tryz.prog ((putRow (fun (b : UInt8) => Value.int .u8 (b.toNat : Int)) (w.alloc (.cells Lib.zeros24 259)) w.heap.size 0 dk).drewN k) = .ok (.string ⟨(Lib.decDigits u).toArray⟩) ((putRow (fun (b : UInt8) => Value.int .u8 (b.toNat : Int)) (w.alloc (.cells Lib.zeros24 259)) w.heap.size 0 dk).drewN k) := by
    have hF : Lib.FmtInv (Lib.nDigits u) u 0 v' dk := by rw [HND.out]; exact HFI.out
    have h := run_convert_bytes_back (P := Tryz.prog) ((putRow (fun (b : UInt8) => Value.int .u8 (b.toNat : Int)) (w.alloc (.cells Lib.zeros24 259)) w.heap.size 0 dk).drewN k) 47 9 5 ⟨w.heap.size, 0, none⟩ 24 (Lib.decDigits u) Tryz.underlying47 Tryz.underlying5 Tryz.underlying9 (fun j hj => by
      rw [Lib.row_is_numeral hF j hj, Lib.add_plain, World.cell?_drewN]
      exact cell?_putRow (fun (b : UInt8) => Value.int .u8 (b.toNat : Int)) _ w.heap.size 0 _ dk HH0.out (by rw [hF.size, HND.out, Array.size_replicate]) j (by rw [hF.size]; rw [Lib.decDigits_length] at hj; exact hj))
    rw [HDL.out] at h
    exact h
  have HB : Hid (Below w.heap.size w ((putRow (fun (b : UInt8) => Value.int .u8 (b.toNat : Int)) (w.alloc (.cells Lib.zeros24 259)) w.heap.size 0 dk).drewN k)) := by
    obtain ⟨os', _, e⟩ := putRow_grow_new (fun (b : UInt8) => Value.int .u8 (b.toNat : Int)) w #[.cells Lib.zeros24 259] w.heap.size 0 dk (Nat.le_refl _)
    show Below _ _ _
    rw [alloc_eq_grow, e]
    exact Lib.below_grow _ w (Nat.le_refl _) k os'
  go_wp2
  go_ret
  exact ⟨rfl, HB.out⟩

theorem Tryz.fmt10_any (u : Nat) (h2 : u < 256) (w : World) (htab : Lib.TabIs Tryz.prog w "internal/strconv.uint64pow10" .u64 Lib.pow10Tab) :
    Calls Tryz.prog 239 #[.int .u64 u, .int .i64 10] w fun e w' => e = .returned (.string ⟨(Lib.decDigits u).toArray⟩) ∧ Below w.heap.size w w' := by
  by_cases h : u < 100
  · refine (Tryz.fmt10_small u h w).mono ?_
    rintro e w' ⟨rfl, rfl⟩
    exact ⟨rfl, Below.refl _ _⟩
  · exact Tryz.fmt10_three u (by omega) h2 w htab

set_option maxHeartbeats 1000000 in
theorem Tryz.formatUint_any (u : Nat) (h2 : u < 256) (w : World) (htab : Lib.TabIs Tryz.prog w "internal/strconv.uint64pow10" .u64 Lib.pow10Tab) :
    Calls Tryz.prog 203 #[.int .u64 u, .int .i64 10] w fun e w' => e = .returned (.string ⟨(Lib.decDigits u).toArray⟩) ∧ Below w.heap.size w w' := by
  have HT : Hid (Lib.TabIs Tryz.prog w "internal/strconv.uint64pow10" .u64 Lib.pow10Tab) := htab
  clear htab
  go_enter Tryz.func203, Tryz.ntmps203
  go_wp2_with fail
  refine (Tryz.fmt10_any u h2 _ HT.out).mono ?_
  rintro e w' ⟨rfl, hb⟩
  go_wp2
  go_ret
  exact ⟨rfl, hb⟩

set_option maxHeartbeats 2000000 in
theorem Tryz.tellIP4_any (a : Nat) (ha : a < 4294967296) (w : World) (henv : Tryz.Env w) :
    Calls Tryz.prog 146 #[.int .u64 a] w fun e w' => e = .returned (.string ⟨(tell4 a).toArray⟩) ∧ Below w.heap.size w w' := by
  have HV : Hid (Tryz.Env w) := henv
  clear henv
  go_enter Tryz.func146, Tryz.ntmps146
  go_wp2
  go_loopw [5] (fun i wr => ∃ q : Nat, q ≤ 4 ∧ i = .int .i64 q ∧ (∀ j, j < 4 → wr.cell? ⟨w.heap.size, j, none⟩ = some (.string (if j < q then ⟨(Lib.decDigits (byte4 a j)).toArray⟩ else ⟨#[]⟩))) ∧ (∀ j, j < 4 → wr.frozen? ⟨w.heap.size, j, none⟩ = false) ∧ Below w.heap.size w wr ∧ w.heap.size < wr.heap.size) (fun i _ => 4 - (intOf i).toNat)
  case atStart =>
    refine ⟨0, by omega, rfl, ?_, ?_, (Below.refl _ w).alloc (Nat.le_refl _) _, by simp⟩
    · intro j hj
      have e : (w.alloc (.cells #[.string ⟨#[]⟩, .string ⟨#[]⟩, .string ⟨#[]⟩, .string ⟨#[]⟩] 237)).heap[w.heap.size]? = some (.cells #[.string ⟨#[]⟩, .string ⟨#[]⟩, .string ⟨#[]⟩, .string ⟨#[]⟩] 237) := heap_alloc_new w _
      simp only [World.cell?, e]
      match j, hj with
      | 0, _ => rfl
      | 1, _ => rfl
      | 2, _ => rfl
      | 3, _ => rfl
    · intro j hj
      exact World.frozen?_alloc_new _ _ _ _
  case round =>
    obtain ⟨q, hq, rfl, hc, hf, hb, hz⟩ := hrel
    have HC : Hid (∀ j, j < 4 → wr.cell? ⟨w.heap.size, j, none⟩ = some (.string (if j < q then ⟨(Lib.decDigits (byte4 a j)).toArray⟩ else ⟨#[]⟩))) := hc
    have HF : Hid (∀ j, j < 4 → wr.frozen? ⟨w.heap.size, j, none⟩ = false) := hf
    clear hc hf
    by_cases hlt : q < 4
    · have HA : Hid (bits .and .u64 ((a : Int) / 2 ^ (24 - 8 * q)) 255 = ((byte4 a q : Nat) : Int)) := and_byte a (24 - 8 * q) ha
      have HVr : Hid (Tryz.Env wr) := HV.out.below hb
      go_wp2_with fail
      rw [HA.out]
      refine (Tryz.formatUint_any (byte4 a q) (byte4_lt a q) _ HVr.out.pow10).mono ?_
      rintro e W1 ⟨rfl, b1⟩
      have hc1 : W1.cell? ⟨w.heap.size, q, none⟩ = some (.string ⟨#[]⟩) := by
        rw [b1.cell (p := ⟨w.heap.size, q, none⟩) hz, HC.out q hlt, if_neg (by omega)]
      have hf1 : W1.frozen? ⟨w.heap.size, q, none⟩ = false := by
        rw [b1.frozen (p := ⟨w.heap.size, q, none⟩) hz, HF.out q hlt]
      have hz1 : w.heap.size < W1.heap.size := Nat.lt_of_lt_of_le hz b1.size
      have hb1 := hb.trans (b1.mono (by omega))
      go_wp2
      go_roundw
      case rel =>
        refine ⟨q + 1, by omega, by go_num, ?_, ?_, hb1.setCell (Nat.le_refl _) _, by simpa using hz1⟩
        · intro j hj
          by_cases hjq : j = q
          · subst hjq
            rw [World.cell?_setCell_same _ _ _ hc1, if_pos (by omega)]
          · rw [World.cell?_setCell_other _ _ _ _ (by intro h; cases h; exact hjq rfl), b1.cell (p := ⟨w.heap.size, j, none⟩) hz, HC.out j hj]
            by_cases h : j < q
            · rw [if_pos h, if_pos (by omega)]
            · rw [if_neg h, if_neg (by omega)]
        · intro j hj
          rw [World.frozen?_setCell, b1.frozen (p := ⟨w.heap.size, j, none⟩) hz, HF.out j hj]
      case measure => simp [intOf]; omega
    · have hq4 : q = 4 := by omega
      subst hq4
      have HJ : Hid (Calls Tryz.prog 189 #[.slice (some ⟨w.heap.size, 0, none⟩) 4 4, .string ⟨#[46]⟩] wr fun e w' => e = .returned (.string ⟨(tell4 a).toArray⟩) ∧ Below wr.heap.size wr w') := by
        have hj := Tryz.strings_Join w.heap.size 0 4 [⟨(Lib.decDigits (byte4 a 0)).toArray⟩, ⟨(Lib.decDigits (byte4 a 1)).toArray⟩, ⟨(Lib.decDigits (byte4 a 2)).toArray⟩, ⟨(Lib.decDigits (byte4 a 3)).toArray⟩] ⟨#[46]⟩ wr (by
            intro j x hx
            match j, hx with
            | 0, hx => cases hx; exact HC.out 0 (by omega)
            | 1, hx => cases hx; exact HC.out 1 (by omega)
            | 2, hx => cases hx; exact HC.out 2 (by omega)
            | 3, hx => cases hx; exact HC.out 3 (by omega)) hz (by simp) (by simp) (by
            show (tell4 a).length ≤ _
            have := tell4_len a
            omega)
        exact hj
      go_wp2_with fail
      refine HJ.out.mono ?_
      rintro e W1 ⟨rfl, b1⟩
      go_wp2
      go_ret
      exact ⟨rfl, hb.trans (b1.mono (by omega))⟩
end Go.Proofs
