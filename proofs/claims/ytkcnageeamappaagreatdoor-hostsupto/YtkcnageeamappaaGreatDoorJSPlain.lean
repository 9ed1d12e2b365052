/-
  What the small makers of texts answer (pick, digits, number, dotted), as contracts.
-/
import Derived.Test.YtkcnageeamappaaGreatDoorJLaid
import Derived.Test.YtkcnageeamappaaGreatDoorJFPlain
import Derived.Laws.CopyOwn
import Derived.Laws.Rows
namespace Go.Proofs
open Go.RowKit Go.Moor

set_option maxHeartbeats 400000 in
theorem Tryz.pickn_any (c N : Int) (w : World) (h0 : -(2 ^ 63) ≤ c) (h1 : c < 2 ^ 63) (hN0 : 0 < N) (hN1 : N ≤ 4294967296) :
    Calls Tryz.prog 14 #[.int .i64 c, .int .i64 N] w fun e w' => (∃ p : Nat, (p : Int) < N ∧ e = .returned (.int .i64 p)) ∧ w' = w := by
  by_cases h : c < 0
  · go_enter Tryz.func14, Tryz.ntmps14
    go_wp2
    go_ret
    have e : -(c + 1).tmod N = (-(c + 1)) % N := by
      rw [← Int.tmod_eq_emod_of_nonneg (by omega), Int.neg_tmod]
    have hp0 : 0 ≤ (-(c + 1)) % N := Int.emod_nonneg _ (by omega)
    have hp1 : (-(c + 1)) % N < N := Int.emod_lt_of_pos _ hN0
    refine ⟨⟨((-(c + 1)) % N).toNat, by omega, ?_⟩, rfl⟩
    show Ending.returned (.int .i64 (-(c + 1).tmod N)) = .returned (.int .i64 (((-(c + 1)) % N).toNat : Int))
    rw [e, Int.toNat_of_nonneg hp0]
  · go_enter Tryz.func14, Tryz.ntmps14
    go_wp2
    go_ret
    have hp0 : 0 ≤ c % N := Int.emod_nonneg _ (by omega)
    have hp1 : c % N < N := Int.emod_lt_of_pos _ hN0
    refine ⟨⟨(c % N).toNat, by omega, ?_⟩, rfl⟩
    show Ending.returned (.int .i64 (c % N)) = .returned (.int .i64 ((c % N).toNat : Int))
    rw [Int.toNat_of_nonneg hp0]

theorem app_mk (l m : List UInt8) : (⟨l.toArray⟩ : ByteArray) ++ ⟨m.toArray⟩ = ⟨(l ++ m).toArray⟩ := by
  apply Tryz.bytes_ext
  simp

def lowHex : ByteArray := ⟨#[48, 49, 50, 51, 52, 53, 54, 55, 56, 57, 97, 98, 99, 100, 101, 102]⟩
theorem low_fin : ∀ n : Fin 16, (lowHex.extract n.val (n.val + 1)).data.toList = [hexL n.val] := by decide +kernel
theorem low_at (n : Nat) (h : n < 16) : lowHex.extract n (n + 1) = ⟨[hexL n].toArray⟩ := by
  apply Tryz.bytes_ext
  exact low_fin ⟨n, h⟩

theorem wrap_i64 (x : Int) (h0 : 0 ≤ x) (h1 : x < 4294967297) : IntKind.i64.wrap x = x := by
  simp only [IntKind.wrap, IntKind.bits, IntKind.signed]
  simp
  omega

set_option maxHeartbeats 2000000 in
theorem Tryz.digits16_any : ∀ (k n : Nat) (w : World), k ≤ 40 → n < 16 ^ (k + 1) → n < 4294967296 →
    Calls Tryz.prog 17 #[.int .i64 n, .int .i64 16] w fun e w' => e = .returned (.string ⟨(digsF 16 k n).toArray⟩) ∧ ∃ nd, w' = w.drewN nd
  | k, n, w, hk40, hn, hn2 => by
    by_cases h : n < 16
    · have HE : Hid (lowHex.extract n (n + 1) = ⟨[hexL n].toArray⟩) := low_at n (by omega)
      have HD : Hid (digsF 16 k n = [hexL n]) := by
        show _ = _
        cases k with
        | zero => rfl
        | succ k => unfold digsF; rw [if_pos h]
      rw [HD.out]
      clear hn
      go_enter Tryz.func17, Tryz.ntmps17
      go_wp2
      go_ret
      refine ⟨?_, 0, rfl⟩
      show Ending.returned (.string (lowHex.extract n (n + 1))) = _
      rw [HE.out]
    · match k, hk40, hn with
      | 0, _, hn => exact absurd (by simpa using hn) h
      | k + 1, hk40, hn =>
        have hq : n / 16 < 16 ^ (k + 1) := by
          rw [Nat.div_lt_iff_lt_mul (by omega)]
          rwa [Nat.pow_succ] at hn
        have IH : Hid (∀ w, Calls Tryz.prog 17 #[.int .i64 ((n : Int) / 16), .int .i64 16] w fun e w' => e = .returned (.string ⟨(digsF 16 k (n / 16)).toArray⟩) ∧ ∃ nd, w' = w.drewN nd) := fun w => by
          have := Tryz.digits16_any k (n / 16) w (by omega) hq (by omega)
          rw [show ((n / 16 : Nat) : Int) = (n : Int) / 16 by omega] at this
          exact this
        have HE : Hid (lowHex.extract (n % 16) (n % 16 + 1) = ⟨[hexL (n % 16)].toArray⟩) := low_at (n % 16) (by omega)
        have HD : Hid (digsF 16 (k + 1) n = digsF 16 k (n / 16) ++ [hexL (n % 16)]) := by
          show _ = _
          rw [digsF, if_neg h]
        rw [HD.out]
        have hw1 : IntKind.i64.wrap ((n : Int) / 16) = (n : Int) / 16 := wrap_i64 _ (by omega) (by omega)
        have hw2 : (n : Int).tmod 16 = (n : Int) % 16 := Int.tmod_eq_emod_of_nonneg (by omega)
        have hw3 : IntKind.i64.wrap ((n : Int) % 16 + 1) = (n : Int) % 16 + 1 := wrap_i64 _ (by omega) (by omega)
        have hsl : ∀ W, (Instr.slice 9 (.string ⟨#[48, 49, 50, 51, 52, 53, 54, 55, 56, 57, 97, 98, 99, 100, 101, 102]⟩) (some (.int .i64 ((n : Int) % 16))) (some (.int .i64 ((n : Int) % 16 + 1))) none).run Tryz.prog W = .ok (.string ⟨#[hexL (n % 16)]⟩) W := fun W => by
          rw [run_slice_string W 9 _ .i64 .i64 _ _ Tryz.underlying9 (by omega) (by omega) (show (n : Int) % 16 + 1 ≤ ((16 : Nat) : Int) by omega), show ((n : Int) % 16).toNat = n % 16 by omega, show ((n : Int) % 16 + 1).toNat = n % 16 + 1 by omega]
          exact congrArg (fun x => Result.ok (Value.string x) W) HE.out
        have hdl : (digsF 16 k (n / 16)).length ≤ 41 := by have := digs_len 16 k (n / 16); omega
        clear hn  hq
        go_enter Tryz.func17, Tryz.ntmps17
        go_wp2_with fail
        go_region_with (go_at_call 17; refine (IH.out _).mono ?_; rintro e w' ⟨rfl, nd, rfl⟩)
        all_goals
          go_wp2
          go_ret
          refine ⟨?_, _, rfl⟩
          show Ending.returned (.string (⟨(digsF 16 k (n / 16)).toArray⟩ ++ ⟨[hexL (n % 16)].toArray⟩)) = _
          rw [app_mk]

set_option maxHeartbeats 2000000 in
theorem Tryz.digits8_any : ∀ (k n : Nat) (w : World), k ≤ 40 → n < 8 ^ (k + 1) → n < 4294967296 →
    Calls Tryz.prog 17 #[.int .i64 n, .int .i64 8] w fun e w' => e = .returned (.string ⟨(digsF 8 k n).toArray⟩) ∧ ∃ nd, w' = w.drewN nd
  | k, n, w, hk40, hn, hn2 => by
    by_cases h : n < 8
    · have HE : Hid (lowHex.extract n (n + 1) = ⟨[hexL n].toArray⟩) := low_at n (by omega)
      have HD : Hid (digsF 8 k n = [hexL n]) := by
        show _ = _
        cases k with
        | zero => rfl
        | succ k => unfold digsF; rw [if_pos h]
      rw [HD.out]
      clear hn
      go_enter Tryz.func17, Tryz.ntmps17
      go_wp2
      go_ret
      refine ⟨?_, 0, rfl⟩
      show Ending.returned (.string (lowHex.extract n (n + 1))) = _
      rw [HE.out]
    · match k, hk40, hn with
      | 0, _, hn => exact absurd (by simpa using hn) h
      | k + 1, hk40, hn =>
        have hq : n / 8 < 8 ^ (k + 1) := by
          rw [Nat.div_lt_iff_lt_mul (by omega)]
          rwa [Nat.pow_succ] at hn
        have IH : Hid (∀ w, Calls Tryz.prog 17 #[.int .i64 ((n : Int) / 8), .int .i64 8] w fun e w' => e = .returned (.string ⟨(digsF 8 k (n / 8)).toArray⟩) ∧ ∃ nd, w' = w.drewN nd) := fun w => by
          have := Tryz.digits8_any k (n / 8) w (by omega) hq (by omega)
          rw [show ((n / 8 : Nat) : Int) = (n : Int) / 8 by omega] at this
          exact this
        have HE : Hid (lowHex.extract (n % 8) (n % 8 + 1) = ⟨[hexL (n % 8)].toArray⟩) := low_at (n % 8) (by omega)
        have HD : Hid (digsF 8 (k + 1) n = digsF 8 k (n / 8) ++ [hexL (n % 8)]) := by
          show _ = _
          rw [digsF, if_neg h]
        rw [HD.out]
        have hw1 : IntKind.i64.wrap ((n : Int) / 8) = (n : Int) / 8 := wrap_i64 _ (by omega) (by omega)
        have hw2 : (n : Int).tmod 8 = (n : Int) % 8 := Int.tmod_eq_emod_of_nonneg (by omega)
        have hw3 : IntKind.i64.wrap ((n : Int) % 8 + 1) = (n : Int) % 8 + 1 := wrap_i64 _ (by omega) (by omega)
        have hsl : ∀ W, (Instr.slice 9 (.string ⟨#[48, 49, 50, 51, 52, 53, 54, 55, 56, 57, 97, 98, 99, 100, 101, 102]⟩) (some (.int .i64 ((n : Int) % 8))) (some (.int .i64 ((n : Int) % 8 + 1))) none).run Tryz.prog W = .ok (.string ⟨#[hexL (n % 8)]⟩) W := fun W => by
          rw [run_slice_string W 9 _ .i64 .i64 _ _ Tryz.underlying9 (by omega) (by omega) (show (n : Int) % 8 + 1 ≤ ((16 : Nat) : Int) by omega), show ((n : Int) % 8).toNat = n % 8 by omega, show ((n : Int) % 8 + 1).toNat = n % 8 + 1 by omega]
          exact congrArg (fun x => Result.ok (Value.string x) W) HE.out
        have hdl : (digsF 8 k (n / 8)).length ≤ 41 := by have := digs_len 8 k (n / 8); omega
        clear hn  hq
        go_enter Tryz.func17, Tryz.ntmps17
        go_wp2_with fail
        go_region_with (go_at_call 17; refine (IH.out _).mono ?_; rintro e w' ⟨rfl, nd, rfl⟩)
        all_goals
          go_wp2
          go_ret
          refine ⟨?_, _, rfl⟩
          show Ending.returned (.string (⟨(digsF 8 k (n / 8)).toArray⟩ ++ ⟨[hexL (n % 8)].toArray⟩)) = _
          rw [app_mk]

set_option maxHeartbeats 2000000 in
theorem Tryz.digits10_any : ∀ (k n : Nat) (w : World), k ≤ 40 → n < 10 ^ (k + 1) → n < 4294967296 →
    Calls Tryz.prog 17 #[.int .i64 n, .int .i64 10] w fun e w' => e = .returned (.string ⟨(digsF 10 k n).toArray⟩) ∧ ∃ nd, w' = w.drewN nd
  | k, n, w, hk40, hn, hn2 => by
    by_cases h : n < 10
    · have HE : Hid (lowHex.extract n (n + 1) = ⟨[hexL n].toArray⟩) := low_at n (by omega)
      have HD : Hid (digsF 10 k n = [hexL n]) := by
        show _ = _
        cases k with
        | zero => rfl
        | succ k => unfold digsF; rw [if_pos h]
      rw [HD.out]
      clear hn
      go_enter Tryz.func17, Tryz.ntmps17
      go_wp2
      go_ret
      refine ⟨?_, 0, rfl⟩
      show Ending.returned (.string (lowHex.extract n (n + 1))) = _
      rw [HE.out]
    · match k, hk40, hn with
      | 0, _, hn => exact absurd (by simpa using hn) h
      | k + 1, hk40, hn =>
        have hq : n / 10 < 10 ^ (k + 1) := by
          rw [Nat.div_lt_iff_lt_mul (by omega)]
          rwa [Nat.pow_succ] at hn
        have IH : Hid (∀ w, Calls Tryz.prog 17 #[.int .i64 ((n : Int) / 10), .int .i64 10] w fun e w' => e = .returned (.string ⟨(digsF 10 k (n / 10)).toArray⟩) ∧ ∃ nd, w' = w.drewN nd) := fun w => by
          have := Tryz.digits10_any k (n / 10) w (by omega) hq (by omega)
          rw [show ((n / 10 : Nat) : Int) = (n : Int) / 10 by omega] at this
          exact this
        have HE : Hid (lowHex.extract (n % 10) (n % 10 + 1) = ⟨[hexL (n % 10)].toArray⟩) := low_at (n % 10) (by omega)
        have HD : Hid (digsF 10 (k + 1) n = digsF 10 k (n / 10) ++ [hexL (n % 10)]) := by
          show _ = _
          rw [digsF, if_neg h]
        rw [HD.out]
        have hw1 : IntKind.i64.wrap ((n : Int) / 10) = (n : Int) / 10 := wrap_i64 _ (by omega) (by omega)
        have hw2 : (n : Int).tmod 10 = (n : Int) % 10 := Int.tmod_eq_emod_of_nonneg (by omega)
        have hw3 : IntKind.i64.wrap ((n : Int) % 10 + 1) = (n : Int) % 10 + 1 := wrap_i64 _ (by omega) (by omega)
        have hsl : ∀ W, (Instr.slice 9 (.string ⟨#[48, 49, 50, 51, 52, 53, 54, 55, 56, 57, 97, 98, 99, 100, 101, 102]⟩) (some (.int .i64 ((n : Int) % 10))) (some (.int .i64 ((n : Int) % 10 + 1))) none).run Tryz.prog W = .ok (.string ⟨#[hexL (n % 10)]⟩) W := fun W => by
          rw [run_slice_string W 9 _ .i64 .i64 _ _ Tryz.underlying9 (by omega) (by omega) (show (n : Int) % 10 + 1 ≤ ((16 : Nat) : Int) by omega), show ((n : Int) % 10).toNat = n % 10 by omega, show ((n : Int) % 10 + 1).toNat = n % 10 + 1 by omega]
          exact congrArg (fun x => Result.ok (Value.string x) W) HE.out
        have hdl : (digsF 10 k (n / 10)).length ≤ 41 := by have := digs_len 10 k (n / 10); omega
        clear hn  hq
        go_enter Tryz.func17, Tryz.ntmps17
        go_wp2_with fail
        go_region_with (go_at_call 17; refine (IH.out _).mono ?_; rintro e w' ⟨rfl, nd, rfl⟩)
        all_goals
          go_wp2
          go_ret
          refine ⟨?_, _, rfl⟩
          show Ending.returned (.string (⟨(digsF 10 k (n / 10)).toArray⟩ ++ ⟨[hexL (n % 10)].toArray⟩)) = _
          rw [app_mk]

end Go.Proofs
/-
  Plain functions on lists of bytes and numbers: the pieces of an IP6, read and told, and hosts of every kind; no program is named here.
-/
namespace Go.Moor
open Go

/-- A piece of an IP6: one to four digits by base 16. -/
def sixPiece (l : List UInt8) : Option Int := if l.length < 1 ∨ 4 < l.length then none else digAcc 16 65535 0 l

/-- A number with dots at the end of an IP6: by base 10, none with a nought ahead, at most 255. -/
def plainDec (l : List UInt8) : Option Int := if l = [] then none else if l.head? = some 48 ∧ 1 < l.length then none else digAcc 10 255 0 l

theorem sixPiece_range (l : List UInt8) (n : Int) (h : sixPiece l = some n) : 0 ≤ n ∧ n ≤ 65535 := by
  unfold sixPiece at h
  split at h
  · simp at h
  · exact digAcc_range 16 65535 (by omega) l 0 n (by omega) (by omega) h
theorem plainDec_range (l : List UInt8) (n : Int) (h : plainDec l = some n) : 0 ≤ n ∧ n ≤ 255 := by
  unfold plainDec at h
  split at h
  · simp at h
  · split at h
    · simp at h
    · exact digAcc_range 10 255 (by omega) l 0 n (by omega) (by omega) h

/-- The pieces of a text: none of an empty one. -/
def sixSplit (l : List UInt8) : List (List UInt8) := if l = [] then [] else splitOn 58 l
end Go.Moor
namespace Go.Moor
open Go

/-- Pieces one behind another. -/
def sixAcc : List Int → List (List UInt8) → Option (List Int)
  | ps, [] => some ps
  | ps, x :: l => match sixPiece x with | some n => sixAcc (ps ++ [n]) l | none => none
def sixPieces (l : List (List UInt8)) : Option (List Int) := sixAcc [] l

theorem sixAcc_step (xs : List ByteArray) (q : Nat) (x : ByteArray) (ps : List Int) (hx : xs[q]? = some x) :
    sixAcc ps ((xs.map (·.data.toList)).drop q) = (match sixPiece x.data.toList with | some n => sixAcc (ps ++ [n]) ((xs.map (·.data.toList)).drop (q + 1)) | none => none) := by
  have h1 : (xs.map (·.data.toList))[q]? = some x.data.toList := by rw [List.getElem?_map, hx]; rfl
  obtain ⟨hlt, he⟩ := List.getElem?_eq_some_iff.1 h1
  rw [List.drop_eq_getElem_cons hlt, he]
  rfl
end Go.Moor
namespace Go.Moor
open Go

/-- Numbers with dots, one behind another. -/
def dotAcc : Int → List (List UInt8) → Option Int
  | a, [] => some a
  | a, x :: l => match plainDec x with | some n => dotAcc (a * 256 + n) l | none => none
def sixDotted (l : List UInt8) : Option Int := if (splitOn 46 l).length = 4 then dotAcc 0 (splitOn 46 l) else none

theorem dotAcc_step (xs : List ByteArray) (q : Nat) (x : ByteArray) (a : Int) (hx : xs[q]? = some x) :
    dotAcc a ((xs.map (·.data.toList)).drop q) = (match plainDec x.data.toList with | some n => dotAcc (a * 256 + n) ((xs.map (·.data.toList)).drop (q + 1)) | none => none) := by
  have h1 : (xs.map (·.data.toList))[q]? = some x.data.toList := by rw [List.getElem?_map, hx]; rfl
  obtain ⟨hlt, he⟩ := List.getElem?_eq_some_iff.1 h1
  rw [List.drop_eq_getElem_cons hlt, he]
  rfl

theorem dotAcc_range : ∀ (l : List (List UInt8)) (a m : Int), 0 ≤ a → dotAcc a l = some m → 0 ≤ m ∧ m < (a + 1) * 256 ^ l.length
  | [], a, m, h0, h => by simp only [dotAcc, Option.some.injEq] at h; simp; omega
  | x :: l, a, m, h0, h => by
    simp only [dotAcc] at h
    split at h
    · rename_i n hn
      have hr := plainDec_range x n hn
      have := dotAcc_range l _ m (by omega) h
      refine ⟨this.1, Int.lt_of_lt_of_le this.2 ?_⟩
      rw [List.length_cons, Int.pow_succ, ← Int.mul_assoc, Int.mul_right_comm]
      exact Int.mul_le_mul_of_nonneg_right (by omega) (Int.pow_nonneg (by omega))
    · simp at h
theorem sixDotted_range (l : List UInt8) (m : Int) (h : sixDotted l = some m) : 0 ≤ m ∧ m < 4294967296 := by
  unfold sixDotted at h
  split at h
  · rename_i h4
    have := dotAcc_range _ 0 m (by omega) h
    rw [h4] at this
    exact ⟨this.1, by simpa using this.2⟩
  · simp at h

/-- The pieces that end an IP6: the last may be numbers with dots, two pieces. -/
def sixJoin : Option (List Int) → Option Int → Option (List Int)
  | some ps, some n => some (ps ++ [n / 65536, n % 65536])
  | _, _ => none
def sixLast (l : List (List UInt8)) : Option (List Int) :=
  match l.getLast? with
  | none => some []
  | some x => if 0 ≤ Lib.indexByte x 46 then sixJoin (sixPieces l.dropLast) (sixDotted x) else sixPieces l

theorem and_low16 (n : Int) (h0 : 0 ≤ n) (h1 : n < 4294967296) : bits .and .u64 n 65535 = n % 65536 := by
  obtain ⟨a, rfl⟩ := Int.eq_ofNat_of_zero_le h0
  rw [show (65535 : Int) = ((65535 : Nat) : Int) from rfl, u64_and_nat a 65535 (by omega) (by omega), show (65535 : Nat) = 2 ^ 16 - 1 from rfl, Nat.and_two_pow_sub_one_eq_mod]
  simp
end Go.Moor
namespace Go.Moor
open Go
theorem sixAcc_len : ∀ (l : List (List UInt8)) (ps qs : List Int), sixAcc ps l = some qs → qs.length = ps.length + l.length
  | [], ps, qs, h => by simp only [sixAcc, Option.some.injEq] at h; rw [h]; rfl
  | x :: l, ps, qs, h => by
    simp only [sixAcc] at h
    split at h
    · have := sixAcc_len l _ qs h
      simp at this ⊢
      omega
    · simp at h
end Go.Moor
namespace Go.Moor
open Go

/-- The eight pieces of what was read ahead and behind. -/
def sixFill (short : Bool) : Option (List Int) → Option (List Int) → Option (List Int)
  | some f, some g => if (if short then decide ((f.length : Int) + (g.length : Int) < 8) else (f.length : Int) + (g.length : Int) == 8) = true then some (f ++ (List.replicate (8 - f.length - g.length) 0 ++ g)) else none
  | _, _ => none
def sixOf (l : List UInt8) : Option (List Int) :=
  match Lib.cut l [58, 58] with
  | (a, b, true) => sixFill true (sixPieces (sixSplit a)) (sixLast (sixSplit b))
  | (_, _, false) => sixFill false (sixPieces (sixSplit [])) (sixLast (sixSplit l))
theorem sixSplit_len (l : List UInt8) : (sixSplit l).length ≤ l.length + 1 := by
  unfold sixSplit
  split
  · simp
  · exact splitOn_len 58 l
theorem sixLast_len (l : List (List UInt8)) (ps : List Int) (h : sixLast l = some ps) : ps.length ≤ l.length + 2 := by
  unfold sixLast at h
  split at h
  · simp at h; rw [h]; simp
  · split at h
    · cases hp : sixPieces l.dropLast with
      | none => rw [hp] at h; simp [sixJoin] at h
      | some qs =>
        have := sixAcc_len _ _ _ hp
        rw [hp] at h
        revert h
        cases sixDotted _ with
        | none => intro h; simp [sixJoin] at h
        | some n =>
          intro h
          simp only [sixJoin, Option.some.injEq] at h
          rw [← h]
          simp at this ⊢
          omega
    · have := sixAcc_len _ _ _ h
      simp at this
      omega
def zero8 : List Int := [0, 0, 0, 0, 0, 0, 0, 0]
def cells8 (l : List Int) : Array Value := (l.map (Value.int .u64)).toArray
theorem splice_fill (f g : List Int) (d : Nat) (hd : d + g.length = 8) (hl : f.length + g.length ≤ 8) :
    (splice (splice (zero8.map (Value.int .u64)) 0 (f.map (Value.int .u64))) d (g.map (Value.int .u64))).toArray = cells8 (f ++ (List.replicate (8 - f.length - g.length) 0 ++ g)) := by
  unfold cells8
  congr 1
  have hz : zero8.map (Value.int .u64) = List.replicate 8 (Value.int .u64 0) := rfl
  rw [hz]
  unfold splice
  simp only [List.take_zero, List.nil_append, List.length_map, Nat.zero_add, List.drop_replicate, List.map_append, List.map_replicate]
  rw [List.take_append, List.take_of_length_le (by simp; omega), List.drop_of_length_le (by simp; omega), List.append_nil, List.append_assoc, List.take_replicate, List.length_map]
  congr 3
  omega
end Go.Moor
namespace Go.Moor
open Go
/-- A piece as it is told. -/
def pieceTxt (p : Nat) : List UInt8 := digsF 16 3 p
def pieceStr (p : Nat) : ByteArray := ⟨(pieceTxt p).toArray⟩
def tellRow (ps : List Nat) : List UInt8 := Lib.join (ps.map pieceTxt) [58]

theorem join_len (c : UInt8) (m : Nat) : ∀ xs : List (List UInt8), (∀ x ∈ xs, x.length ≤ m) → (Lib.join xs [c]).length ≤ (m + 1) * xs.length
  | [], _ => by simp [Lib.join]
  | [x], h => by
    have := h x (by simp)
    simp [Lib.join]
    omega
  | x :: y :: l, h => by
    have h1 := h x (by simp)
    have h2 := join_len c m (y :: l) (fun z hz => h z (by simp [hz]))
    simp [Lib.join] at h2 ⊢
    rw [Nat.mul_add, Nat.mul_add] at *
    omega
theorem tellRow_len (ps : List Nat) : (tellRow ps).length ≤ 5 * ps.length := by
  have := join_len 58 4 (ps.map pieceTxt) (by
    intro x hx
    obtain ⟨p, _, rfl⟩ := List.mem_map.1 hx
    exact digs_len 16 3 p)
  simpa [tellRow] using this
end Go.Moor
namespace Go.Moor
open Go
/-- The longest row of noughts, the first of these: where it begins, how long it is. -/
def noughts : List Nat → Nat → Nat → Nat → Nat → Nat × Nat
  | [], _, _, s, l => (s, l)
  | p :: ps, i, row, s, l => if p ≠ 0 then noughts ps (i + 1) 0 s l else if l < row + 1 then noughts ps (i + 1) (row + 1) (i - row) (row + 1) else noughts ps (i + 1) (row + 1) s l

theorem noughts_bound (n : Nat) : ∀ (ps : List Nat) (i row s l : Nat), i + ps.length = n → row ≤ i → s + l ≤ n → (noughts ps i row s l).1 + (noughts ps i row s l).2 ≤ n
  | [], i, row, s, l, _, _, h => h
  | p :: ps, i, row, s, l, hi, hr, h => by
    have hi2 : i + 1 + ps.length = n := by simp at hi; omega
    unfold noughts
    split
    · exact noughts_bound n ps _ _ _ _ hi2 (by omega) h
    · split
      · exact noughts_bound n ps _ _ _ _ hi2 (by omega) (by omega)
      · exact noughts_bound n ps _ _ _ _ hi2 (by omega) h
def nats8 (ps : List Nat) : Array Value := cells8 (ps.map fun p => ((p : Nat) : Int))
theorem nats8_at (ps : List Nat) (i p : Nat) (h : ps[i]? = some p) : (nats8 ps)[i]? = some (.int .u64 (p : Nat)) := by
  unfold nats8 cells8
  simp [h]
theorem nats8_size (ps : List Nat) : (nats8 ps).size = ps.length := by simp [nats8, cells8]
end Go.Moor
namespace Go.Moor
open Go
/-- An IP6 as it is told, without its brackets. -/
def sixTell (ps : List Nat) : List UInt8 :=
  if (noughts ps 0 0 0 0).2 < 2 then tellRow ps else tellRow (ps.take (noughts ps 0 0 0 0).1) ++ ([58, 58] ++ tellRow (ps.drop ((noughts ps 0 0 0 0).1 + (noughts ps 0 0 0 0).2)))
end Go.Moor
namespace Go.Moor
open Go

def okPiece (p : Int) : Prop := 0 ≤ p ∧ p < 65536
theorem sixAcc_ok : ∀ (l : List (List UInt8)) (ps qs : List Int), (∀ p ∈ ps, okPiece p) → sixAcc ps l = some qs → ∀ p ∈ qs, okPiece p
  | [], ps, qs, h, e => by simp only [sixAcc, Option.some.injEq] at e; rw [← e]; exact h
  | x :: l, ps, qs, h, e => by
    simp only [sixAcc] at e
    split at e
    · rename_i n hn
      have hr := sixPiece_range x n hn
      refine sixAcc_ok l _ qs (fun p hp => ?_) e
      rcases List.mem_append.1 hp with hp | hp
      · exact h p hp
      · simp at hp; subst hp; exact ⟨hr.1, by omega⟩
    · simp at e
theorem sixPieces_ok (l : List (List UInt8)) (qs : List Int) (e : sixPieces l = some qs) : ∀ p ∈ qs, okPiece p := sixAcc_ok l [] qs (by simp) e
theorem sixLast_ok (l : List (List UInt8)) (qs : List Int) (e : sixLast l = some qs) : ∀ p ∈ qs, okPiece p := by
  unfold sixLast at e
  split at e
  · simp at e; rw [e]; simp
  · split at e
    · rename_i x _ _
      cases hp : sixPieces l.dropLast with
      | none => rw [hp] at e; simp [sixJoin] at e
      | some ps =>
        cases hd : sixDotted x with
        | none => rw [hp, hd] at e; simp [sixJoin] at e
        | some n =>
          rw [hp, hd] at e
          simp only [sixJoin, Option.some.injEq] at e
          rw [← e]
          have hr := sixDotted_range x n hd
          intro p hm
          rcases List.mem_append.1 hm with hm | hm
          · exact sixPieces_ok _ ps hp p hm
          · simp at hm
            rcases hm with rfl | rfl
            · exact ⟨by omega, by omega⟩
            · exact ⟨by omega, by omega⟩
    · exact sixPieces_ok l qs e
theorem sixFill_ok (b : Bool) (f g : Option (List Int)) (qs : List Int) (hf : ∀ ps, f = some ps → ∀ p ∈ ps, okPiece p) (hg : ∀ ps, g = some ps → ∀ p ∈ ps, okPiece p) (e : sixFill b f g = some qs) : qs.length = 8 ∧ ∀ p ∈ qs, okPiece p := by
  cases f with
  | none => simp [sixFill] at e
  | some f =>
    cases g with
    | none => simp [sixFill] at e
    | some g =>
      have key : f.length + g.length ≤ 8 ∧ f ++ (List.replicate (8 - f.length - g.length) 0 ++ g) = qs := by
        cases b
        · simp [sixFill] at e
          exact ⟨by omega, e.2⟩
        · simp [sixFill] at e
          exact ⟨by omega, e.2⟩
      obtain ⟨hl, e⟩ := key
      rw [← e]
      refine ⟨by simp; omega, fun p hp => ?_⟩
      rcases List.mem_append.1 hp with hp | hp
      · exact hf f rfl p hp
      · rcases List.mem_append.1 hp with hp | hp
        · rw [List.eq_of_mem_replicate hp]; exact ⟨by omega, by omega⟩
        · exact hg g rfl p hp
theorem sixOf_ok (l : List UInt8) (qs : List Int) (e : sixOf l = some qs) : qs.length = 8 ∧ ∀ p ∈ qs, okPiece p := by
  unfold sixOf at e
  split at e
  · exact sixFill_ok _ _ _ qs (fun ps h => sixPieces_ok _ ps h) (fun ps h => sixLast_ok _ ps h) e
  · exact sixFill_ok _ _ _ qs (fun ps h => sixPieces_ok _ ps h) (fun ps h => sixLast_ok _ ps h) e

theorem cells8_nats (ps : List Int) (h : ∀ p ∈ ps, okPiece p) : cells8 ps = nats8 (ps.map Int.toNat) := by
  unfold nats8
  congr 1
  rw [List.map_map]
  refine (List.map_id ps).symm.trans (List.map_congr_left fun p hp => ?_)
  have := (h p hp).1
  simp
  omega

/-- What is told of a text behind a bracket. -/
def bracketed (l : List UInt8) : Option (List UInt8) :=
  if Lib.hasSuffix l [93] = true then (match sixOf (Lib.trimSuffix l [93]) with | some ps => some ([91] ++ (sixTell (ps.map Int.toNat) ++ [93])) | none => none) else none
end Go.Moor
namespace Go.Moor
open Go

/-- Bytes that a host of a scheme that is not special can't have. -/
def forbP : List UInt8 := [0, 9, 10, 13, 32, 35, 47, 58, 60, 62, 63, 64, 91, 92, 93, 94, 124]
def badP (c : UInt8) : Bool := decide (0 ≤ Lib.indexByte forbP c)
def hostPlain (l : List UInt8) : Option (List UInt8) := if l.any badP then none else some (esc 0 l)
/-- The host, told, or none. -/
def hostTell (l : List UInt8) (sp : Bool) : Option (List UInt8) :=
  if Lib.hasPrefix l [91] = true then bracketed (l.drop 1) else if sp then hostSpecial (unesc l) else hostPlain l
end Go.Moor
