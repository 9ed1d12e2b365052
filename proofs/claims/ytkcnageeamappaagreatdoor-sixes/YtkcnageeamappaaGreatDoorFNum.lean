/-
  What moorkeep.number and moorkeep.dotted answer.
-/
import Derived.Test.YtkcnageeamappaaGreatDoorFWalks
namespace Go.Proofs
open Go.RowKit Go.Moor

theorem Tryz.digits10_int (x : Int) (w : World) (h0 : 0 ≤ x) (h1 : x < 4294967296) :
    Calls Tryz.prog 17 #[.int .i64 x, .int .i64 10] w fun e w' => e = .returned (.string ⟨(digsF 10 31 x.toNat).toArray⟩) ∧ ∃ nd, w' = w.drewN nd := by
  obtain ⟨n, rfl⟩ := Int.eq_ofNat_of_zero_le h0
  exact Tryz.digits10_any 31 n w (by omega) (Nat.lt_of_lt_of_le (by omega) (pow_big 10 (by omega))) (by omega)
theorem Tryz.digits16_int (x : Int) (w : World) (h0 : 0 ≤ x) (h1 : x < 4294967296) :
    Calls Tryz.prog 17 #[.int .i64 x, .int .i64 16] w fun e w' => e = .returned (.string ⟨(digsF 16 31 x.toNat).toArray⟩) ∧ ∃ nd, w' = w.drewN nd := by
  obtain ⟨n, rfl⟩ := Int.eq_ofNat_of_zero_le h0
  exact Tryz.digits16_any 31 n w (by omega) (Nat.lt_of_lt_of_le (by omega) (pow_big 16 (by omega))) (by omega)
theorem Tryz.digits8_int (x : Int) (w : World) (h0 : 0 ≤ x) (h1 : x < 4294967296) :
    Calls Tryz.prog 17 #[.int .i64 x, .int .i64 8] w fun e w' => e = .returned (.string ⟨(digsF 8 31 x.toNat).toArray⟩) ∧ ∃ nd, w' = w.drewN nd := by
  obtain ⟨n, rfl⟩ := Int.eq_ofNat_of_zero_le h0
  exact Tryz.digits8_any 31 n w (by omega) (Nat.lt_of_lt_of_le (by omega) (pow_big 8 (by omega))) (by omega)

set_option maxHeartbeats 1000000 in
theorem Tryz.number_any (x : Int) (how : Int) (w : World) (h0 : 0 ≤ x) (h1 : x < 4294967296) (g0 : -(2 ^ 63) ≤ how) (g1 : how < 2 ^ 63) :
    Calls Tryz.prog 16 #[.int .i64 x, .int .i64 how] w fun e w' => (∃ r : Nat, e = .returned (.string ⟨(numTxt r x.toNat).toArray⟩)) ∧ ∃ nd, w' = w.drewN nd := by
  have l16 := digs_len 16 31 x.toNat
  have l8 := digs_len 8 31 x.toNat
  go_enter Tryz.func16, Tryz.ntmps16
  go_wp2_with fail
  refine (Tryz.pickn_any how 3 _ g0 g1 (by omega) (by omega)).mono ?_
  rintro e w1 ⟨⟨p, hp, rfl⟩, rfl⟩
  have hp3 : p = 0 ∨ p = 1 ∨ p = 2 := by omega
  rcases hp3 with rfl | rfl | rfl
  · go_wp2_with fail
    refine (Tryz.digits16_int x _ h0 h1).mono ?_
    rintro e w2 ⟨rfl, nd, rfl⟩
    go_wp2
    go_ret
    refine ⟨⟨0, ?_⟩, nd, rfl⟩
    show Ending.returned (.string (⟨[48, 120].toArray⟩ ++ ⟨(digsF 16 31 x.toNat).toArray⟩)) = _
    rw [app_mk]; rfl
  · go_wp2_with fail
    refine (Tryz.digits8_int x _ h0 h1).mono ?_
    rintro e w2 ⟨rfl, nd, rfl⟩
    go_wp2
    go_ret
    refine ⟨⟨1, ?_⟩, nd, rfl⟩
    show Ending.returned (.string (⟨[48].toArray⟩ ++ ⟨(digsF 8 31 x.toNat).toArray⟩)) = _
    rw [app_mk]; rfl
  · go_wp2_with fail
    refine (Tryz.digits10_int x _ h0 h1).mono ?_
    rintro e w2 ⟨rfl, nd, rfl⟩
    go_wp2
    go_ret
    exact ⟨⟨2, rfl⟩, nd, rfl⟩

theorem app4 (a b c d : List UInt8) : ((((((⟨a.toArray⟩ ++ ⟨[46].toArray⟩ : ByteArray) ++ ⟨b.toArray⟩) ++ ⟨[46].toArray⟩) ++ ⟨c.toArray⟩) ++ ⟨[46].toArray⟩) ++ ⟨d.toArray⟩ : ByteArray) = ⟨(joinDots [a, b, c, d]).toArray⟩ := by
  simp only [app_mk, joinDots, List.append_assoc, List.cons_append, List.nil_append]
theorem app3 (a b d : List UInt8) : ((((⟨a.toArray⟩ ++ ⟨[46].toArray⟩ : ByteArray) ++ ⟨b.toArray⟩) ++ ⟨[46].toArray⟩) ++ ⟨d.toArray⟩ : ByteArray) = ⟨(joinDots [a, b, d]).toArray⟩ := by
  simp only [app_mk, joinDots, List.append_assoc, List.cons_append, List.nil_append]
theorem app2 (a d : List UInt8) : ((⟨a.toArray⟩ ++ ⟨[46].toArray⟩ : ByteArray) ++ ⟨d.toArray⟩ : ByteArray) = ⟨(joinDots [a, d]).toArray⟩ := by
  simp only [app_mk, joinDots, List.append_assoc, List.cons_append, List.nil_append]

theorem dotted_tell (n : Nat) : joinDots [digsF 10 31 (n / 16777216 % 256), digsF 10 31 (n / 65536 % 256), digsF 10 31 (n / 256 % 256), digsF 10 31 (n % 256)] = tell4 n := by
  have h : ∀ m : Nat, m < 256 → digsF 10 31 m = Lib.decDigits m := fun m hm => digs_dec 31 m (Nat.lt_of_lt_of_le (by omega) (pow_big 10 (by omega)))
  rw [h _ (by omega), h _ (by omega), h _ (by omega), h _ (by omega), tell4_eq]
  have e0 : byte4 n 0 = n / 16777216 % 256 := rfl
  have e1 : byte4 n 1 = n / 65536 % 256 := rfl
  have e2 : byte4 n 2 = n / 256 % 256 := rfl
  have e3 : byte4 n 3 = n % 256 := by show n / 1 % 256 = _; rw [Nat.div_one]
  rw [e0, e1, e2, e3]
  rfl

set_option maxHeartbeats 1000000 in
theorem Tryz.dotted_any (n : Nat) (w : World) (h1 : n < 4294967296) :
    Calls Tryz.prog 15 #[.int .i64 n] w fun e w' => e = .returned (.string ⟨(tell4 n).toArray⟩) ∧ ∃ nd, w' = w.drewN nd := by
  have l0 := digs_len 10 31 (n / 16777216 % 256)
  have l1 := digs_len 10 31 (n / 65536 % 256)
  have l2 := digs_len 10 31 (n / 256 % 256)
  have l3 := digs_len 10 31 (n % 256)
  have t0 : ((n : Int) / 16777216 % 256).toNat = n / 16777216 % 256 := by omega
  have t1 : ((n : Int) / 65536 % 256).toNat = n / 65536 % 256 := by omega
  have t2 : ((n : Int) / 256 % 256).toNat = n / 256 % 256 := by omega
  have t3 : ((n : Int) % 256).toNat = n % 256 := by omega
  go_enter Tryz.func15, Tryz.ntmps15
  go_wp2_with fail
  refine (Tryz.digits10_int _ _ ?_ ?_).mono ?_
  · omega
  · omega
  rintro e w2 ⟨rfl, n1, rfl⟩
  go_wp2_with fail
  refine (Tryz.digits10_int _ _ ?_ ?_).mono ?_
  · omega
  · omega
  rintro e w2 ⟨rfl, n2, rfl⟩
  go_wp2_with fail
  refine (Tryz.digits10_int _ _ ?_ ?_).mono ?_
  · omega
  · omega
  rintro e w2 ⟨rfl, n3, rfl⟩
  go_wp2_with fail
  refine (Tryz.digits10_int _ _ ?_ ?_).mono ?_
  · omega
  · omega
  rintro e w2 ⟨rfl, n4, rfl⟩
  go_wp2
  go_ret
  refine ⟨?_, _, rfl⟩
  show Ending.returned (.string ((((((⟨(digsF 10 31 (n / 16777216 % 256)).toArray⟩ ++ ⟨[46].toArray⟩) ++ ⟨(digsF 10 31 (n / 65536 % 256)).toArray⟩) ++ ⟨[46].toArray⟩) ++ ⟨(digsF 10 31 (n / 256 % 256)).toArray⟩) ++ ⟨[46].toArray⟩) ++ ⟨(digsF 10 31 (n % 256)).toArray⟩)) = _
  rw [app4, dotted_tell]
end Go.Proofs
