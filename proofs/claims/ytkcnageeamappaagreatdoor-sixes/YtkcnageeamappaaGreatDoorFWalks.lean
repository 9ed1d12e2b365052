/-
  What the small makers of texts answer (pick, digits, number, dotted), as contracts.
-/
import Derived.Test.YtkcnageeamappaaGreatDoorHost
import Derived.Test.YtkcnageeamappaaGreatDoorFPlain
namespace Go.Proofs
open Go.RowKit Go.Moor

set_option maxHeartbeats 400000 in
theorem Tryz.pickn_any (c N : Int) (w : World) (h0 : -(2 ^ 63) ≤ c) (h1 : c < 2 ^ 63) (hN0 : 0 < N) (hN1 : N ≤ 4294967296) :
    Calls Tryz.prog 14 #[.int .i64 c, .int .i64 N] w fun e w' => (∃ p : Nat, (p : Int) < N ∧ e = .returned (.int .i64 p)) ∧ w' = w := by
  by_cases h : c < 0
  · go_enter Tryz.func14, Tryz.ntmps14
    go_wp2
    go_ret
    have e : -(c + 1).tmod N = (-(c + 1)) % N := by
      rw [← Int.tmod_eq_emod_of_nonneg (by omega), Int.neg_tmod]
    have hp0 : 0 ≤ (-(c + 1)) % N := Int.emod_nonneg _ (by omega)
    have hp1 : (-(c + 1)) % N < N := Int.emod_lt_of_pos _ hN0
    refine ⟨⟨((-(c + 1)) % N).toNat, by omega, ?_⟩, rfl⟩
    show Ending.returned (.int .i64 (-(c + 1).tmod N)) = .returned (.int .i64 (((-(c + 1)) % N).toNat : Int))
    rw [e, Int.toNat_of_nonneg hp0]
  · go_enter Tryz.func14, Tryz.ntmps14
    go_wp2
    go_ret
    have hp0 : 0 ≤ c % N := Int.emod_nonneg _ (by omega)
    have hp1 : c % N < N := Int.emod_lt_of_pos _ hN0
    refine ⟨⟨(c % N).toNat, by omega, ?_⟩, rfl⟩
    show Ending.returned (.int .i64 (c % N)) = .returned (.int .i64 ((c % N).toNat : Int))
    rw [Int.toNat_of_nonneg hp0]

theorem app_mk (l m : List UInt8) : (⟨l.toArray⟩ : ByteArray) ++ ⟨m.toArray⟩ = ⟨(l ++ m).toArray⟩ := by
  apply Tryz.bytes_ext
  simp

def lowHex : ByteArray := ⟨#[48, 49, 50, 51, 52, 53, 54, 55, 56, 57, 97, 98, 99, 100, 101, 102]⟩
theorem low_fin : ∀ n : Fin 16, (lowHex.extract n.val (n.val + 1)).data.toList = [hexL n.val] := by decide +kernel
theorem low_at (n : Nat) (h : n < 16) : lowHex.extract n (n + 1) = ⟨[hexL n].toArray⟩ := by
  apply Tryz.bytes_ext
  exact low_fin ⟨n, h⟩

theorem wrap_i64 (x : Int) (h0 : 0 ≤ x) (h1 : x < 4294967297) : IntKind.i64.wrap x = x := by
  simp only [IntKind.wrap, IntKind.bits, IntKind.signed]
  simp
  omega

set_option maxHeartbeats 2000000 in
theorem Tryz.digits16_any : ∀ (k n : Nat) (w : World), k ≤ 40 → n < 16 ^ (k + 1) → n < 4294967296 →
    Calls Tryz.prog 17 #[.int .i64 n, .int .i64 16] w fun e w' => e = .returned (.string ⟨(digsF 16 k n).toArray⟩) ∧ ∃ nd, w' = w.drewN nd
  | k, n, w, hk40, hn, hn2 => by
    by_cases h : n < 16
    · have HE : Hid (lowHex.extract n (n + 1) = ⟨[hexL n].toArray⟩) := low_at n (by omega)
      have HD : Hid (digsF 16 k n = [hexL n]) := by
        show _ = _
        cases k with
        | zero => rfl
        | succ k => unfold digsF; rw [if_pos h]
      rw [HD.out]
      clear hn
      go_enter Tryz.func17, Tryz.ntmps17
      go_wp2
      go_ret
      refine ⟨?_, 0, rfl⟩
      show Ending.returned (.string (lowHex.extract n (n + 1))) = _
      rw [HE.out]
    · match k, hk40, hn with
      | 0, _, hn => exact absurd (by simpa using hn) h
      | k + 1, hk40, hn =>
        have hq : n / 16 < 16 ^ (k + 1) := by
          rw [Nat.div_lt_iff_lt_mul (by omega)]
          rwa [Nat.pow_succ] at hn
        have IH : Hid (∀ w, Calls Tryz.prog 17 #[.int .i64 ((n : Int) / 16), .int .i64 16] w fun e w' => e = .returned (.string ⟨(digsF 16 k (n / 16)).toArray⟩) ∧ ∃ nd, w' = w.drewN nd) := fun w => by
          have := Tryz.digits16_any k (n / 16) w (by omega) hq (by omega)
          rw [show ((n / 16 : Nat) : Int) = (n : Int) / 16 by omega] at this
          exact this
        have HE : Hid (lowHex.extract (n % 16) (n % 16 + 1) = ⟨[hexL (n % 16)].toArray⟩) := low_at (n % 16) (by omega)
        have HD : Hid (digsF 16 (k + 1) n = digsF 16 k (n / 16) ++ [hexL (n % 16)]) := by
          show _ = _
          rw [digsF, if_neg h]
        rw [HD.out]
        have hw1 : IntKind.i64.wrap ((n : Int) / 16) = (n : Int) / 16 := wrap_i64 _ (by omega) (by omega)
        have hw2 : (n : Int).tmod 16 = (n : Int) % 16 := Int.tmod_eq_emod_of_nonneg (by omega)
        have hw3 : IntKind.i64.wrap ((n : Int) % 16 + 1) = (n : Int) % 16 + 1 := wrap_i64 _ (by omega) (by omega)
        have hsl : ∀ W, (Instr.slice 9 (.string ⟨#[48, 49, 50, 51, 52, 53, 54, 55, 56, 57, 97, 98, 99, 100, 101, 102]⟩) (some (.int .i64 ((n : Int) % 16))) (some (.int .i64 ((n : Int) % 16 + 1))) none).run Tryz.prog W = .ok (.string ⟨#[hexL (n % 16)]⟩) W := fun W => by
          rw [run_slice_string W 9 _ .i64 .i64 _ _ Tryz.underlying9 (by omega) (by omega) (show (n : Int) % 16 + 1 ≤ ((16 : Nat) : Int) by omega), show ((n : Int) % 16).toNat = n % 16 by omega, show ((n : Int) % 16 + 1).toNat = n % 16 + 1 by omega]
          exact congrArg (fun x => Result.ok (Value.string x) W) HE.out
        have hdl : (digsF 16 k (n / 16)).length ≤ 41 := by have := digs_len 16 k (n / 16); omega
        clear hn  hq
        go_enter Tryz.func17, Tryz.ntmps17
        go_wp2_with fail
        go_region_with (go_at_call 17; refine (IH.out _).mono ?_; rintro e w' ⟨rfl, nd, rfl⟩)
        all_goals
          go_wp2
          go_ret
          refine ⟨?_, _, rfl⟩
          show Ending.returned (.string (⟨(digsF 16 k (n / 16)).toArray⟩ ++ ⟨[hexL (n % 16)].toArray⟩)) = _
          rw [app_mk]

set_option maxHeartbeats 2000000 in
theorem Tryz.digits8_any : ∀ (k n : Nat) (w : World), k ≤ 40 → n < 8 ^ (k + 1) → n < 4294967296 →
    Calls Tryz.prog 17 #[.int .i64 n, .int .i64 8] w fun e w' => e = .returned (.string ⟨(digsF 8 k n).toArray⟩) ∧ ∃ nd, w' = w.drewN nd
  | k, n, w, hk40, hn, hn2 => by
    by_cases h : n < 8
    · have HE : Hid (lowHex.extract n (n + 1) = ⟨[hexL n].toArray⟩) := low_at n (by omega)
      have HD : Hid (digsF 8 k n = [hexL n]) := by
        show _ = _
        cases k with
        | zero => rfl
        | succ k => unfold digsF; rw [if_pos h]
      rw [HD.out]
      clear hn
      go_enter Tryz.func17, Tryz.ntmps17
      go_wp2
      go_ret
      refine ⟨?_, 0, rfl⟩
      show Ending.returned (.string (lowHex.extract n (n + 1))) = _
      rw [HE.out]
    · match k, hk40, hn with
      | 0, _, hn => exact absurd (by simpa using hn) h
      | k + 1, hk40, hn =>
        have hq : n / 8 < 8 ^ (k + 1) := by
          rw [Nat.div_lt_iff_lt_mul (by omega)]
          rwa [Nat.pow_succ] at hn
        have IH : Hid (∀ w, Calls Tryz.prog 17 #[.int .i64 ((n : Int) / 8), .int .i64 8] w fun e w' => e = .returned (.string ⟨(digsF 8 k (n / 8)).toArray⟩) ∧ ∃ nd, w' = w.drewN nd) := fun w => by
          have := Tryz.digits8_any k (n / 8) w (by omega) hq (by omega)
          rw [show ((n / 8 : Nat) : Int) = (n : Int) / 8 by omega] at this
          exact this
        have HE : Hid (lowHex.extract (n % 8) (n % 8 + 1) = ⟨[hexL (n % 8)].toArray⟩) := low_at (n % 8) (by omega)
        have HD : Hid (digsF 8 (k + 1) n = digsF 8 k (n / 8) ++ [hexL (n % 8)]) := by
          show _ = _
          rw [digsF, if_neg h]
        rw [HD.out]
        have hw1 : IntKind.i64.wrap ((n : Int) / 8) = (n : Int) / 8 := wrap_i64 _ (by omega) (by omega)
        have hw2 : (n : Int).tmod 8 = (n : Int) % 8 := Int.tmod_eq_emod_of_nonneg (by omega)
        have hw3 : IntKind.i64.wrap ((n : Int) % 8 + 1) = (n : Int) % 8 + 1 := wrap_i64 _ (by omega) (by omega)
        have hsl : ∀ W, (Instr.slice 9 (.string ⟨#[48, 49, 50, 51, 52, 53, 54, 55, 56, 57, 97, 98, 99, 100, 101, 102]⟩) (some (.int .i64 ((n : Int) % 8))) (some (.int .i64 ((n : Int) % 8 + 1))) none).run Tryz.prog W = .ok (.string ⟨#[hexL (n % 8)]⟩) W := fun W => by
          rw [run_slice_string W 9 _ .i64 .i64 _ _ Tryz.underlying9 (by omega) (by omega) (show (n : Int) % 8 + 1 ≤ ((16 : Nat) : Int) by omega), show ((n : Int) % 8).toNat = n % 8 by omega, show ((n : Int) % 8 + 1).toNat = n % 8 + 1 by omega]
          exact congrArg (fun x => Result.ok (Value.string x) W) HE.out
        have hdl : (digsF 8 k (n / 8)).length ≤ 41 := by have := digs_len 8 k (n / 8); omega
        clear hn  hq
        go_enter Tryz.func17, Tryz.ntmps17
        go_wp2_with fail
        go_region_with (go_at_call 17; refine (IH.out _).mono ?_; rintro e w' ⟨rfl, nd, rfl⟩)
        all_goals
          go_wp2
          go_ret
          refine ⟨?_, _, rfl⟩
          show Ending.returned (.string (⟨(digsF 8 k (n / 8)).toArray⟩ ++ ⟨[hexL (n % 8)].toArray⟩)) = _
          rw [app_mk]

set_option maxHeartbeats 2000000 in
theorem Tryz.digits10_any : ∀ (k n : Nat) (w : World), k ≤ 40 → n < 10 ^ (k + 1) → n < 4294967296 →
    Calls Tryz.prog 17 #[.int .i64 n, .int .i64 10] w fun e w' => e = .returned (.string ⟨(digsF 10 k n).toArray⟩) ∧ ∃ nd, w' = w.drewN nd
  | k, n, w, hk40, hn, hn2 => by
    by_cases h : n < 10
    · have HE : Hid (lowHex.extract n (n + 1) = ⟨[hexL n].toArray⟩) := low_at n (by omega)
      have HD : Hid (digsF 10 k n = [hexL n]) := by
        show _ = _
        cases k with
        | zero => rfl
        | succ k => unfold digsF; rw [if_pos h]
      rw [HD.out]
      clear hn
      go_enter Tryz.func17, Tryz.ntmps17
      go_wp2
      go_ret
      refine ⟨?_, 0, rfl⟩
      show Ending.returned (.string (lowHex.extract n (n + 1))) = _
      rw [HE.out]
    · match k, hk40, hn with
      | 0, _, hn => exact absurd (by simpa using hn) h
      | k + 1, hk40, hn =>
        have hq : n / 10 < 10 ^ (k + 1) := by
          rw [Nat.div_lt_iff_lt_mul (by omega)]
          rwa [Nat.pow_succ] at hn
        have IH : Hid (∀ w, Calls Tryz.prog 17 #[.int .i64 ((n : Int) / 10), .int .i64 10] w fun e w' => e = .returned (.string ⟨(digsF 10 k (n / 10)).toArray⟩) ∧ ∃ nd, w' = w.drewN nd) := fun w => by
          have := Tryz.digits10_any k (n / 10) w (by omega) hq (by omega)
          rw [show ((n / 10 : Nat) : Int) = (n : Int) / 10 by omega] at this
          exact this
        have HE : Hid (lowHex.extract (n % 10) (n % 10 + 1) = ⟨[hexL (n % 10)].toArray⟩) := low_at (n % 10) (by omega)
        have HD : Hid (digsF 10 (k + 1) n = digsF 10 k (n / 10) ++ [hexL (n % 10)]) := by
          show _ = _
          rw [digsF, if_neg h]
        rw [HD.out]
        have hw1 : IntKind.i64.wrap ((n : Int) / 10) = (n : Int) / 10 := wrap_i64 _ (by omega) (by omega)
        have hw2 : (n : Int).tmod 10 = (n : Int) % 10 := Int.tmod_eq_emod_of_nonneg (by omega)
        have hw3 : IntKind.i64.wrap ((n : Int) % 10 + 1) = (n : Int) % 10 + 1 := wrap_i64 _ (by omega) (by omega)
        have hsl : ∀ W, (Instr.slice 9 (.string ⟨#[48, 49, 50, 51, 52, 53, 54, 55, 56, 57, 97, 98, 99, 100, 101, 102]⟩) (some (.int .i64 ((n : Int) % 10))) (some (.int .i64 ((n : Int) % 10 + 1))) none).run Tryz.prog W = .ok (.string ⟨#[hexL (n % 10)]⟩) W := fun W => by
          rw [run_slice_string W 9 _ .i64 .i64 _ _ Tryz.underlying9 (by omega) (by omega) (show (n : Int) % 10 + 1 ≤ ((16 : Nat) : Int) by omega), show ((n : Int) % 10).toNat = n % 10 by omega, show ((n : Int) % 10 + 1).toNat = n % 10 + 1 by omega]
          exact congrArg (fun x => Result.ok (Value.string x) W) HE.out
        have hdl : (digsF 10 k (n / 10)).length ≤ 41 := by have := digs_len 10 k (n / 10); omega
        clear hn  hq
        go_enter Tryz.func17, Tryz.ntmps17
        go_wp2_with fail
        go_region_with (go_at_call 17; refine (IH.out _).mono ?_; rintro e w' ⟨rfl, nd, rfl⟩)
        all_goals
          go_wp2
          go_ret
          refine ⟨?_, _, rfl⟩
          show Ending.returned (.string (⟨(digsF 10 k (n / 10)).toArray⟩ ++ ⟨[hexL (n % 10)].toArray⟩)) = _
          rw [app_mk]

end Go.Proofs
