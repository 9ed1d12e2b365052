/-
  Plain mathematics on addresses of known making: small words, paths of them, dots; no program is named here.
-/
import Derived.Test.YtkcnageeamappaaGreatDoorJAPlain
import Derived.Test.YtkcnageeamappaaGreatDoorJSPlain
import Derived.Test.YtkcnageeamappaaGreatDoorJAParse
namespace Go.Moor
open Go

/-- A small letter. -/
def smallB (c : UInt8) : Prop := 97 ≤ c.toNat ∧ c.toNat ≤ 122
/-- A word: one small letter at least. -/
def wordB (l : Bs) : Prop := l ≠ [] ∧ ∀ c ∈ l, smallB c

theorem small_fin (c : UInt8) (h : smallB c) : ∃ k : Fin 26, c = (97 + k.val).toUInt8 := by
  obtain ⟨h1, h2⟩ := h
  refine ⟨⟨c.toNat - 97, by omega⟩, ?_⟩
  apply UInt8.toNat_inj.1
  show c.toNat = (UInt8.ofNat (97 + (c.toNat - 97))).toNat
  rw [UInt8.toNat_ofNat']
  omega
theorem small_holds : ∀ (s : Fin 7) (k : Fin 26), holdsB (s.val : Int) ((97 + k.val).toUInt8.toNat : Int) = false := by decide +kernel
theorem small_out (c : UInt8) (h : smallB c) (s : Nat) (hs : s < 7) : holdsB (s : Int) c.toNat = false := by
  obtain ⟨k, rfl⟩ := small_fin c h
  exact small_holds ⟨s, hs⟩ k

theorem esc_same (s : Int) : ∀ l : Bs, (∀ c ∈ l, holdsB s c.toNat = false) → esc s l = l
  | [], _ => rfl
  | c :: l, h => by
    have ih := esc_same s l (fun x hx => h x (by simp [hx]))
    have e : esc s (c :: l) = escB s c ++ esc s l := rfl
    rw [e, ih, escB, h c (by simp)]
    rfl
theorem esc_word (s : Nat) (hs : s < 7) (l : Bs) (h : wordB l) : esc (s : Int) l = l := esc_same _ l fun c hc => small_out c (h.2 c hc) s hs

theorem lowDots_same : ∀ l : Bs, (∀ c ∈ l, c ≠ 37) → lowDots l = l
  | [], _ => rfl
  | c :: l, h => by
    have ih := lowDots_same l (fun x hx => h x (by simp [hx]))
    unfold lowDots
    split
    · rename_i heq
      cases heq
      exact absurd rfl (h 37 (by simp))
    · rename_i heq
      cases heq
      rw [ih]
    · rename_i heq
      cases heq
theorem small_ne (c : UInt8) (h : smallB c) (k : Nat) (hk : k < 97 ∨ 122 < k) (hk2 : k < 256) : c ≠ k.toUInt8 := by
  intro e
  rw [e] at h
  have : (k.toUInt8).toNat = k := by rw [show k.toUInt8.toNat = k % 256 from rfl]; omega
  obtain ⟨h1, h2⟩ := h
  omega
theorem dots_word (l : Bs) (h : wordB l) : dots l = 0 := by
  have h37 : ∀ c ∈ l, c ≠ 37 := fun c hc => small_ne c (h.2 c hc) 37 (by omega) (by omega)
  have hd : ∀ c ∈ l, c ≠ 46 := fun c hc => small_ne c (h.2 c hc) 46 (by omega) (by omega)
  unfold dots
  rw [lowDots_same l h37]
  match l, h.1 with
  | c :: r, _ =>
    have h1 := h37 c (by simp)
    have h2 := hd c (by simp)
    simp [h1, h2]
theorem drive_word (l : Bs) (h : wordB l) : isDrive l = false := by
  unfold isDrive
  split
  · rename_i a b
    have h1 : b ≠ 58 := small_ne b (h.2 b (by simp)) 58 (by omega) (by omega)
    have h2 : b ≠ 124 := small_ne b (h.2 b (by simp)) 124 (by omega) (by omega)
    simp [h1, h2]
  · rfl

-- paths
theorem splitOn_tell : ∀ (l : List Bs) (x : Bs), (∀ c ∈ x, c ≠ 47) → (∀ p ∈ l, ∀ c ∈ p, c ≠ 47) → splitOn 47 (x ++ tellSegs l) = x :: l
  | [], x, hx, _ => by
    show splitOn 47 (x ++ []) = [x]
    rw [List.append_nil, splitOn_miss 47 x hx]
  | p :: l, x, hx, hl => by
    show splitOn 47 (x ++ 47 :: (p ++ tellSegs l)) = _
    rw [splitOn_hit 47 _ x hx, splitOn_tell l p (hl p (by simp)) (fun q hq => hl q (by simp [hq]))]
theorem tellSegs_app (a b : List Bs) : tellSegs (a ++ b) = tellSegs a ++ tellSegs b := by
  unfold tellSegs
  rw [List.flatMap_append]

/-- A segment that comes as it is written. -/
def stays (s p : Bs) : Prop := dots p = 0 ∧ esc 4 p = p ∧ (s = sFile → isDrive p = false)
theorem stays_word (s p : Bs) (h : wordB p) : stays s p := ⟨dots_word p h, esc_word 4 (by omega) p h, fun _ => drive_word p h⟩
theorem tellSeg_stays (s p : Bs) (f : Bool) (h : stays s p) : tellSeg s p f = p := by
  unfold tellSeg
  by_cases hs : s = sFile
  · rw [h.2.2 hs, if_neg (by simp), h.2.1]
  · rw [if_neg (by simp [hs]), h.2.1]
theorem segLoop_stays (s : Bs) (r : List Bs) : ∀ (ps segs : List Bs), (∀ p ∈ ps, stays s p) → segLoop s segs (ps ++ r) = segLoop s (segs ++ ps) r
  | [], segs, _ => by rw [List.append_nil]; rfl
  | p :: ps, segs, h => by
    have hp := h p (by simp)
    show segLoop s segs (p :: (ps ++ r)) = _
    rw [segLoop, if_pos hp.1, tellSeg_stays s p _ hp, segLoop_stays s r ps _ (fun x hx => h x (by simp [hx])), List.append_assoc]
    rfl
theorem segLoop_up (s p : Bs) (hp : dots p = 2) (r : List Bs) (hr : r ≠ []) (segs : List Bs) : segLoop s segs (p :: r) = segLoop s (withoutLast s segs) r := by
  rw [segLoop, if_neg (by omega), if_pos hp]
  cases r with
  | nil => exact absurd rfl hr
  | cons x r => simp
theorem segLoop_here (s p : Bs) (hp : dots p = 1) (r : List Bs) (hr : r ≠ []) (segs : List Bs) : segLoop s segs (p :: r) = segLoop s segs r := by
  rw [segLoop, if_neg (by omega), if_neg (by omega)]
  cases r with
  | nil => exact absurd rfl hr
  | cons x r => simp
theorem withoutLast_plain (s : Bs) (hs : s ≠ sFile) (segs : List Bs) : withoutLast s segs = segs.dropLast := by
  unfold withoutLast
  rw [if_neg (by simp [hs])]

-- what has no marks
theorem cutB_none (c : UInt8) : ∀ l : Bs, (∀ x ∈ l, x ≠ c) → cutB c l = none
  | [], _ => rfl
  | b :: l, h => by
    rw [cutB, if_neg (h b (by simp)), cutB_none c l (fun x hx => h x (by simp [hx]))]
    rfl
theorem cutB_some (c : UInt8) (r : Bs) : ∀ p : Bs, (∀ x ∈ p, x ≠ c) → cutB c (p ++ c :: r) = some (p, r)
  | [], _ => by simp [cutB]
  | b :: p, h => by
    show cutB c (b :: (p ++ c :: r)) = _
    rw [cutB, if_neg (h b (by simp)), cutB_some c r p (fun x hx => h x (by simp [hx]))]
    rfl
theorem strip_same (l : Bs) (h : ∀ c ∈ l, 33 ≤ c.toNat) : stripB l = l := by
  have hd : ∀ l : Bs, (∀ c ∈ l, 33 ≤ c.toNat) → l.dropWhile blankB = l := by
    intro l h
    cases l with
    | nil => rfl
    | cons c l => rw [List.dropWhile_cons_of_neg (by have := h c (by simp); simp [blankB]; omega)]
  unfold stripB trimB
  rw [hd l h, hd l.reverse (fun c hc => h c (by simpa using hc)), List.reverse_reverse, List.filter_eq_self]
  intro c hc
  have := h c hc
  have e : ∀ k : Nat, k < 33 → c ≠ k.toUInt8 := by
    intro k hk e
    rw [e] at this
    have : (k.toUInt8).toNat = k := by rw [show k.toUInt8.toNat = k % 256 from rfl]; omega
    omega
  have e9 : c ≠ 9 := e 9 (by omega)
  have e10 : c ≠ 10 := e 10 (by omega)
  have e13 : c ≠ 13 := e 13 (by omega)
  simp [breakB, e9, e10, e13]
theorem even_same (s t : Bs) (h : ∀ c ∈ t, c ≠ 92) : evenSlashes s t = t := by
  unfold evenSlashes
  split
  · exact (List.map_congr_left (g := id) (fun c hc => if_neg (h c hc))).trans (List.map_id t)
  · rfl
theorem cutSlash_at (x r : Bs) (h : ∀ c ∈ x, c ≠ 47) : cutSlash (x ++ 47 :: r) = (x, 47 :: r) := by
  unfold cutSlash
  rw [List.takeWhile_append_of_pos (by simpa using h), List.dropWhile_append_of_pos (by simpa using h)]
  simp
theorem cutSlash_none (x : Bs) (h : ∀ c ∈ x, c ≠ 47) : cutSlash x = (x, []) := by
  unfold cutSlash
  have e1 := List.takeWhile_append_of_pos (p := fun c : UInt8 => decide (c ≠ 47)) (l₁ := x) (l₂ := []) (by simpa using h)
  have e2 := List.dropWhile_append_of_pos (p := fun c : UInt8 => decide (c ≠ 47)) (l₁ := x) (l₂ := []) (by simpa using h)
  simp only [List.append_nil, List.takeWhile_nil, List.dropWhile_nil] at e1 e2
  rw [e1, e2]
end Go.Moor
/-
  What moorkeep.number and moorkeep.dotted answer.
-/
namespace Go.Proofs
open Go.RowKit Go.Moor

theorem Tryz.digits10_int (x : Int) (w : World) (h0 : 0 ≤ x) (h1 : x < 4294967296) :
    Calls Tryz.prog 17 #[.int .i64 x, .int .i64 10] w fun e w' => e = .returned (.string ⟨(digsF 10 31 x.toNat).toArray⟩) ∧ ∃ nd, w' = w.drewN nd := by
  obtain ⟨n, rfl⟩ := Int.eq_ofNat_of_zero_le h0
  exact Tryz.digits10_any 31 n w (by omega) (Nat.lt_of_lt_of_le (by omega) (pow_big 10 (by omega))) (by omega)
theorem Tryz.digits16_int (x : Int) (w : World) (h0 : 0 ≤ x) (h1 : x < 4294967296) :
    Calls Tryz.prog 17 #[.int .i64 x, .int .i64 16] w fun e w' => e = .returned (.string ⟨(digsF 16 31 x.toNat).toArray⟩) ∧ ∃ nd, w' = w.drewN nd := by
  obtain ⟨n, rfl⟩ := Int.eq_ofNat_of_zero_le h0
  exact Tryz.digits16_any 31 n w (by omega) (Nat.lt_of_lt_of_le (by omega) (pow_big 16 (by omega))) (by omega)
theorem Tryz.digits8_int (x : Int) (w : World) (h0 : 0 ≤ x) (h1 : x < 4294967296) :
    Calls Tryz.prog 17 #[.int .i64 x, .int .i64 8] w fun e w' => e = .returned (.string ⟨(digsF 8 31 x.toNat).toArray⟩) ∧ ∃ nd, w' = w.drewN nd := by
  obtain ⟨n, rfl⟩ := Int.eq_ofNat_of_zero_le h0
  exact Tryz.digits8_any 31 n w (by omega) (Nat.lt_of_lt_of_le (by omega) (pow_big 8 (by omega))) (by omega)

set_option maxHeartbeats 1000000 in
theorem Tryz.number_any (x : Int) (how : Int) (w : World) (h0 : 0 ≤ x) (h1 : x < 4294967296) (g0 : -(2 ^ 63) ≤ how) (g1 : how < 2 ^ 63) :
    Calls Tryz.prog 16 #[.int .i64 x, .int .i64 how] w fun e w' => (∃ r : Nat, e = .returned (.string ⟨(numTxt r x.toNat).toArray⟩)) ∧ ∃ nd, w' = w.drewN nd := by
  have l16 := digs_len 16 31 x.toNat
  have l8 := digs_len 8 31 x.toNat
  go_enter Tryz.func16, Tryz.ntmps16
  go_wp2_with fail
  refine (Tryz.pickn_any how 3 _ g0 g1 (by omega) (by omega)).mono ?_
  rintro e w1 ⟨⟨p, hp, rfl⟩, rfl⟩
  have hp3 : p = 0 ∨ p = 1 ∨ p = 2 := by omega
  rcases hp3 with rfl | rfl | rfl
  · go_wp2_with fail
    refine (Tryz.digits16_int x _ h0 h1).mono ?_
    rintro e w2 ⟨rfl, nd, rfl⟩
    go_wp2
    go_ret
    refine ⟨⟨0, ?_⟩, nd, rfl⟩
    show Ending.returned (.string (⟨[48, 120].toArray⟩ ++ ⟨(digsF 16 31 x.toNat).toArray⟩)) = _
    rw [app_mk]; rfl
  · go_wp2_with fail
    refine (Tryz.digits8_int x _ h0 h1).mono ?_
    rintro e w2 ⟨rfl, nd, rfl⟩
    go_wp2
    go_ret
    refine ⟨⟨1, ?_⟩, nd, rfl⟩
    show Ending.returned (.string (⟨[48].toArray⟩ ++ ⟨(digsF 8 31 x.toNat).toArray⟩)) = _
    rw [app_mk]; rfl
  · go_wp2_with fail
    refine (Tryz.digits10_int x _ h0 h1).mono ?_
    rintro e w2 ⟨rfl, nd, rfl⟩
    go_wp2
    go_ret
    exact ⟨⟨2, rfl⟩, nd, rfl⟩

theorem app4 (a b c d : List UInt8) : ((((((⟨a.toArray⟩ ++ ⟨[46].toArray⟩ : ByteArray) ++ ⟨b.toArray⟩) ++ ⟨[46].toArray⟩) ++ ⟨c.toArray⟩) ++ ⟨[46].toArray⟩) ++ ⟨d.toArray⟩ : ByteArray) = ⟨(joinDots [a, b, c, d]).toArray⟩ := by
  simp only [app_mk, joinDots, List.append_assoc, List.cons_append, List.nil_append]
theorem app3 (a b d : List UInt8) : ((((⟨a.toArray⟩ ++ ⟨[46].toArray⟩ : ByteArray) ++ ⟨b.toArray⟩) ++ ⟨[46].toArray⟩) ++ ⟨d.toArray⟩ : ByteArray) = ⟨(joinDots [a, b, d]).toArray⟩ := by
  simp only [app_mk, joinDots, List.append_assoc, List.cons_append, List.nil_append]
theorem app2 (a d : List UInt8) : ((⟨a.toArray⟩ ++ ⟨[46].toArray⟩ : ByteArray) ++ ⟨d.toArray⟩ : ByteArray) = ⟨(joinDots [a, d]).toArray⟩ := by
  simp only [app_mk, joinDots, List.append_assoc, List.cons_append, List.nil_append]

theorem dotted_tell (n : Nat) : joinDots [digsF 10 31 (n / 16777216 % 256), digsF 10 31 (n / 65536 % 256), digsF 10 31 (n / 256 % 256), digsF 10 31 (n % 256)] = tell4 n := by
  have h : ∀ m : Nat, m < 256 → digsF 10 31 m = Lib.decDigits m := fun m hm => digs_dec 31 m (Nat.lt_of_lt_of_le (by omega) (pow_big 10 (by omega)))
  rw [h _ (by omega), h _ (by omega), h _ (by omega), h _ (by omega), tell4_eq]
  have e0 : byte4 n 0 = n / 16777216 % 256 := rfl
  have e1 : byte4 n 1 = n / 65536 % 256 := rfl
  have e2 : byte4 n 2 = n / 256 % 256 := rfl
  have e3 : byte4 n 3 = n % 256 := by show n / 1 % 256 = _; rw [Nat.div_one]
  rw [e0, e1, e2, e3]
  rfl

set_option maxHeartbeats 1000000 in
theorem Tryz.dotted_any (n : Nat) (w : World) (h1 : n < 4294967296) :
    Calls Tryz.prog 15 #[.int .i64 n] w fun e w' => e = .returned (.string ⟨(tell4 n).toArray⟩) ∧ ∃ nd, w' = w.drewN nd := by
  have l0 := digs_len 10 31 (n / 16777216 % 256)
  have l1 := digs_len 10 31 (n / 65536 % 256)
  have l2 := digs_len 10 31 (n / 256 % 256)
  have l3 := digs_len 10 31 (n % 256)
  have t0 : ((n : Int) / 16777216 % 256).toNat = n / 16777216 % 256 := by omega
  have t1 : ((n : Int) / 65536 % 256).toNat = n / 65536 % 256 := by omega
  have t2 : ((n : Int) / 256 % 256).toNat = n / 256 % 256 := by omega
  have t3 : ((n : Int) % 256).toNat = n % 256 := by omega
  go_enter Tryz.func15, Tryz.ntmps15
  go_wp2_with fail
  refine (Tryz.digits10_int _ _ ?_ ?_).mono ?_
  · omega
  · omega
  rintro e w2 ⟨rfl, n1, rfl⟩
  go_wp2_with fail
  refine (Tryz.digits10_int _ _ ?_ ?_).mono ?_
  · omega
  · omega
  rintro e w2 ⟨rfl, n2, rfl⟩
  go_wp2_with fail
  refine (Tryz.digits10_int _ _ ?_ ?_).mono ?_
  · omega
  · omega
  rintro e w2 ⟨rfl, n3, rfl⟩
  go_wp2_with fail
  refine (Tryz.digits10_int _ _ ?_ ?_).mono ?_
  · omega
  · omega
  rintro e w2 ⟨rfl, n4, rfl⟩
  go_wp2
  go_ret
  refine ⟨?_, _, rfl⟩
  show Ending.returned (.string ((((((⟨(digsF 10 31 (n / 16777216 % 256)).toArray⟩ ++ ⟨[46].toArray⟩) ++ ⟨(digsF 10 31 (n / 65536 % 256)).toArray⟩) ++ ⟨[46].toArray⟩) ++ ⟨(digsF 10 31 (n / 256 % 256)).toArray⟩) ++ ⟨[46].toArray⟩) ++ ⟨(digsF 10 31 (n % 256)).toArray⟩)) = _
  rw [app4, dotted_tell]
end Go.Proofs
/-
  What pick, word, path, told, refused of package moorkeep answer.
-/
namespace Go.Proofs
open Go.RowKit Go.Moor

/-- A number below N out of any. -/
def pickN (c N : Int) : Nat := ((if c < 0 then -(c + 1) else c) % N).toNat
theorem pickN_lt (c N : Int) (h : 0 < N) : (pickN c N : Int) < N := by
  unfold pickN
  have h1 : 0 ≤ (if c < 0 then -(c + 1) else c) % N := Int.emod_nonneg _ (by omega)
  have h2 : (if c < 0 then -(c + 1) else c) % N < N := Int.emod_lt_of_pos _ h
  omega
set_option maxHeartbeats 400000 in
theorem Tryz.pick_fun (c N : Int) (w : World) (h0 : -(2 ^ 63) ≤ c) (h1 : c < 2 ^ 63) (hN0 : 0 < N) (hN1 : N ≤ 2000000000000) :
    Calls Tryz.prog 14 #[.int .i64 c, .int .i64 N] w fun e w' => e = .returned (.int .i64 (pickN c N)) ∧ w' = w := by
  by_cases h : c < 0
  · have HE : Hid (((pickN c N : Nat) : Int) = (-(c + 1)) % N) := by
      show _ = _
      unfold pickN
      rw [if_pos h, Int.toNat_of_nonneg (Int.emod_nonneg _ (by omega))]
    go_enter Tryz.func14, Tryz.ntmps14
    go_wp2
    go_ret
    have e : -(c + 1).tmod N = (-(c + 1)) % N := by
      rw [← Int.tmod_eq_emod_of_nonneg (by omega), Int.neg_tmod]
    refine ⟨?_, rfl⟩
    show Ending.returned (.int .i64 (-(c + 1).tmod N)) = _
    rw [e, HE.out]
  · have HE : Hid (((pickN c N : Nat) : Int) = c % N) := by
      show _ = _
      unfold pickN
      rw [if_neg h, Int.toNat_of_nonneg (Int.emod_nonneg _ (by omega))]
    go_enter Tryz.func14, Tryz.ntmps14
    go_wp2
    go_ret
    refine ⟨?_, rfl⟩
    show Ending.returned (.int .i64 (c % N)) = _
    rw [HE.out]

theorem tdiv_range (a : Int) (h0 : -(2 ^ 63) ≤ a) (h1 : a < 2 ^ 63) (k : Int) (hk : 1 < k) : -(2 ^ 62) ≤ a.tdiv k ∧ a.tdiv k ≤ 2 ^ 62 := by
  by_cases h : 0 ≤ a
  · rw [Int.tdiv_eq_ediv_of_nonneg h]
    have h2 : a / k ≤ a / 2 := by
      have : a / k * 2 ≤ a / k * k := Int.mul_le_mul_of_nonneg_left (by omega) (Int.ediv_nonneg h (by omega))
      have h3 := Int.ediv_mul_le a (show k ≠ 0 by omega)
      omega
    have h4 := Int.ediv_nonneg h (show 0 ≤ k by omega)
    omega
  · have e : a.tdiv k = -((-a) / k) := by
      rw [← Int.tdiv_eq_ediv_of_nonneg (by omega), Int.neg_tdiv, Int.neg_neg]
    have h2 : (-a) / k ≤ (-a) / 2 := by
      have : (-a) / k * 2 ≤ (-a) / k * k := Int.mul_le_mul_of_nonneg_left (by omega) (Int.ediv_nonneg (by omega) (by omega))
      have h3 := Int.ediv_mul_le (-a) (show k ≠ 0 by omega)
      omega
    have h4 := Int.ediv_nonneg (show 0 ≤ -a by omega) (show 0 ≤ k by omega)
    rw [e]
    omega
theorem small_mod (k : Nat) : smallB (97 + k % 26).toUInt8 := by
  have h : (97 + k % 26).toUInt8.toNat = 97 + k % 26 := by
    show (97 + k % 26) % 256 = _
    omega
  unfold smallB
  omega
set_option maxHeartbeats 4000000 in
set_option maxRecDepth 8000 in
theorem Tryz.word_any (raw : Int) (w : World) (h0 : -(2 ^ 63) ≤ raw) (h1 : raw < 2 ^ 63) :
    Calls Tryz.prog 23 #[.int .i64 raw] w fun e w' => ∃ l : Bs, wordB l ∧ l.length ≤ 4 ∧ e = .returned (.string ⟨l.toArray⟩) ∧ Below w.heap.size w w' := by
  have HP : Hid (∀ (c N : Int) (w1 : World), -(2 ^ 63) ≤ c → c < 2 ^ 63 → 0 < N → N ≤ 2000000000000 → Calls Tryz.prog 14 #[.int .i64 c, .int .i64 N] w1 fun e w' => e = .returned (.int .i64 (pickN c N)) ∧ w' = w1) := fun c N w1 a b d e => Tryz.pick_fun c N w1 a b d e
  have hqq := tdiv_range raw h0 h1 5 (by omega)
  have hq0 : -(2 ^ 63) ≤ raw.tdiv 5 := by omega
  have hq1 : raw.tdiv 5 < 2 ^ 63 := by omega
  have HQ : Hid (-(2 ^ 63) ≤ raw.tdiv 5 ∧ raw.tdiv 5 < 2 ^ 63) := ⟨hq0, hq1⟩
  have HR : Hid (-(2 ^ 63) ≤ raw ∧ raw < 2 ^ 63) := ⟨h0, h1⟩
  have hn := pickN_lt raw 4 (by omega)
  have hk := pickN_lt (raw.tdiv 5) 1073741824 (by omega)
  generalize hN : pickN raw 4 = n at *
  generalize hK : pickN (raw.tdiv 5) 1073741824 = k at *
  have HN : Hid (pickN raw 4 = n) := hN
  have HK : Hid (pickN (raw.tdiv 5) 1073741824 = k) := hK
  clear hN hK hqq
  go_enter Tryz.func23, Tryz.ntmps23
  go_wp2_with fail
  refine (HP.out raw 4 w HR.out.1 HR.out.2 (by omega) (by omega)).mono ?_
  rintro e W0 ⟨rfl, hw0⟩
  have hw0 := hw0.symm
  subst hw0
  rw [HN.out]
  go_wp2_with fail
  refine (HP.out (raw.tdiv 5) 1073741824 w HQ.out.1 HQ.out.2 (by omega) (by omega)).mono ?_
  rintro e W0 ⟨rfl, hw0⟩
  have hw0 := hw0.symm
  subst hw0
  rw [HK.out]
  go_wp2_with fail
  go_loopw [4, 5, 6] (fun a b c wr => ∃ (q j : Nat) (l : Bs), q ≤ n + 1 ∧ a = .int .i64 j ∧ j < 1073741824 ∧ b = .string ⟨l.toArray⟩ ∧ c = .int .i64 q ∧ l.length = q ∧ (∀ x ∈ l, smallB x) ∧ Below w.heap.size w wr) (fun _ _ c _ => n + 1 - (intOf c).toNat)
  case atStart => exact ⟨0, k, [], Nat.zero_le _, rfl, by omega, rfl, rfl, rfl, by simp, Below.refl _ _⟩
  case round =>
    obtain ⟨q, j, l, hq, rfl, hj, rfl, rfl, hl, hsm, hb⟩ := hrel
    have HB : Hid (Below w.heap.size w wr) := hb
    have HS : Hid (∀ x ∈ l, smallB x) := hsm
    have hsz : (⟨l.toArray⟩ : ByteArray).size = l.length := size_mk l
    have HD : Hid (⟨l.toArray⟩ ++ ⟨#[(97 + j % 26).toUInt8]⟩ = (⟨(l ++ [(97 + j % 26).toUInt8]).toArray⟩ : ByteArray)) := app_mk l [_]
    obtain ⟨s, hsd⟩ : ∃ s : ByteArray, s = ⟨l.toArray⟩ := ⟨_, rfl⟩
    rw [← hsd] at HD hsz ⊢
    have HSD : Hid (s = ⟨l.toArray⟩) := hsd
    clear hsd
    have HJ : Hid (j < 1073741824) := hj
    clear hb hsm hj hk HK HQ HR HP hq0 hq1 h0 h1 HN
    by_cases hlt : q < n + 1
    · have hbt : ((97 + j % 26).toUInt8.toNat : Int) = 97 + (j : Int) % 26 := by
        have : (97 + j % 26).toUInt8.toNat = 97 + j % 26 := by
          show (97 + j % 26) % 256 = _
          omega
        omega
      have hcv : (convert 47 9 (.slice (some ⟨wr.heap.size, 0, none⟩) 1 1)).run Tryz.prog (wr.alloc (.cells #[.int .u8 (97 + (j : Int) % 26)] 5)) = .ok (.string ⟨#[(97 + j % 26).toUInt8]⟩) (wr.alloc (.cells #[.int .u8 (97 + (j : Int) % 26)] 5)) :=
        run_convert_bytes_back _ 47 9 5 ⟨wr.heap.size, 0, none⟩ 1 [(97 + j % 26).toUInt8] Tryz.underlying47 Tryz.underlying5 Tryz.underlying9 (fun i hi => by
          have : i = 0 := by simpa using hi
          subst this
          show World.cell? _ ⟨wr.heap.size, 0, none⟩ = _
          rw [cell_heap (alloc_here wr _ _) 0]
          simp
          omega)
      have z1 : (⟨#[(97 + j % 26).toUInt8]⟩ : ByteArray).size = 1 := rfl
      have HX : Hid (smallB (97 + j % 26).toUInt8) := small_mod j
      clear hbt
      generalize (97 + j % 26).toUInt8 = x at *
      go_wp2
      go_roundw
      case rel =>
        refine ⟨q + 1, j / 26, l ++ [x], by omega, ?_, ?_, congrArg Value.string HD.out, by go_num, by simp [hl], ?_, HB.out.alloc HB.out.size _⟩
        · have := HJ.out
          have e : wrap64 ((j : Int) / 26) = (j : Int) / 26 := by
            unfold wrap64
            omega
          simp [e]
        · have := HJ.out
          omega
        · intro y hy
          rcases List.mem_append.1 hy with hy | hy
          · exact HS.out y hy
          · simp at hy
            rw [hy]
            exact HX.out
      case measure => (simp [intOf]; try omega)
    · have hqn : q = n + 1 := by omega
      go_wp2
      go_ret
      refine ⟨l, ⟨?_, HS.out⟩, by omega, ?_, HB.out⟩
      · intro e
        rw [e] at hl
        simp at hl
        omega
      · exact congrArg (fun y => Ending.returned (Value.string y)) HSD.out
end Go.Proofs
/-
  What path, words, told, refused of package moorkeep answer.
-/
namespace Go.Proofs
open Go.RowKit Go.Moor

set_option maxHeartbeats 4000000 in
theorem Tryz.told_any (t b want : Bs) (w : World) (ht : t.length ≤ 100000) (hb : b.length ≤ 100000) (henv : Tryz.Env2 w) (hp : parse hostTell t b = .ok want) :
    Calls Tryz.prog 26 #[.string ⟨t.toArray⟩, .string ⟨b.toArray⟩, .string ⟨want.toArray⟩] w fun e w' => e = .returned (.bool true) ∧ Below w.heap.size w w' := by
  have HP : Hid (Calls Tryz.prog 20 #[.string ⟨t.toArray⟩, .string ⟨b.toArray⟩] w fun e w' => e = .returned (.tuple #[.string ⟨want.toArray⟩, .int .i64 0]) ∧ Below w.heap.size w w') := by
    have h := Tryz.Parse_any t b w (by unfold maxLen; omega) (by unfold maxLen; omega) henv
    rw [hp] at h
    exact h
  clear ht hb henv hp
  generalize (⟨t.toArray⟩ : ByteArray) = x at *
  generalize (⟨b.toArray⟩ : ByteArray) = y at *
  generalize (⟨want.toArray⟩ : ByteArray) = z at *
  go_enter Tryz.func26, Tryz.ntmps26
  go_wp2_with fail
  refine HP.out.mono ?_
  rintro e w1 ⟨rfl, b1⟩
  go_wp2_with fail
  go_ret
  exact ⟨rfl, b1⟩

set_option maxHeartbeats 4000000 in
theorem Tryz.refused_any (t b : Bs) (n : Int) (w : World) (ht : t.length ≤ 100000) (hb : b.length ≤ 100000) (henv : Tryz.Env2 w) (hp : parse hostTell t b = .error n) :
    Calls Tryz.prog 27 #[.string ⟨t.toArray⟩, .string ⟨b.toArray⟩, .int .i64 n] w fun e w' => e = .returned (.bool true) ∧ Below w.heap.size w w' := by
  have HP : Hid (Calls Tryz.prog 20 #[.string ⟨t.toArray⟩, .string ⟨b.toArray⟩] w fun e w' => e = .returned (.tuple #[.string ⟨#[]⟩, .int .i64 n]) ∧ Below w.heap.size w w') := by
    have h := Tryz.Parse_any t b w (by unfold maxLen; omega) (by unfold maxLen; omega) henv
    rw [hp] at h
    exact h
  have e0 := empty_yes
  clear ht hb henv hp
  generalize (⟨t.toArray⟩ : ByteArray) = x at *
  generalize (⟨b.toArray⟩ : ByteArray) = y at *
  go_enter Tryz.func27, Tryz.ntmps27
  go_wp2_with fail
  refine HP.out.mono ?_
  rintro e w1 ⟨rfl, b1⟩
  go_wp2_with fail
  go_ret
  exact ⟨rfl, b1⟩

set_option maxHeartbeats 4000000 in
theorem Tryz.path_any (segs : List Bs) (v : Value) (w : World) (hv : SegRow0 w v segs) (hn : segs.length ≤ 1000) (hx : ∀ x ∈ segs, x.length ≤ 1000) :
    Calls Tryz.prog 25 #[v] w fun e w' => e = .returned (.string ⟨(tellSegs segs).toArray⟩) ∧ w' = w := by
  obtain ⟨sp, cap, rfl, hnc, hcm, hf⟩ := hv
  unfold maxLen at hcm
  have HS : Hid (∀ (j : Nat) x, segs[j]? = some x → ∃ g, sp = some ⟨g, 0, none⟩ ∧ w.cell? ⟨g, j, none⟩ = some (.string ⟨x.toArray⟩)) := by
    intro j x hj
    obtain ⟨g, hg, hc⟩ := hf (by intro h; rw [h] at hj; simp at hj)
    exact ⟨g, hg, hc j x hj⟩
  have HL : Hid (∀ q, (tellSegs (segs.take q)).length ≤ 1000001 * q) := tellSegs_le segs (fun x hx2 => by have := hx x hx2; omega)
  have HX : Hid (∀ x ∈ segs, x.length ≤ 1000) := hx
  clear hf hx
  go_enter Tryz.func25, Tryz.ntmps25
  go_wp2_with fail
  go_loopw [3, 4] (fun s i wr => ∃ q : Nat, q ≤ segs.length ∧ i = .int .i64 q ∧ s = .string ⟨(tellSegs (segs.take q)).toArray⟩ ∧ wr = w) (fun _ i _ => segs.length - (intOf i).toNat)
  case atStart => exact ⟨0, Nat.zero_le _, rfl, rfl, rfl⟩
  case round =>
    obtain ⟨q, hq, rfl, rfl, rfl⟩ := hrel
    have hlq := HL.out q
    have hsz : (⟨(tellSegs (segs.take q)).toArray⟩ : ByteArray).size = (tellSegs (segs.take q)).length := size_mk _
    by_cases hlt : q < segs.length
    · obtain ⟨x, hx⟩ : ∃ x, segs[q]? = some x := ⟨segs[q], List.getElem?_eq_getElem hlt⟩
      obtain ⟨g, hsp, hcx⟩ := HS.out q x hx
      subst hsp
      have hxl := HX.out x (List.mem_of_getElem? hx)
      have HNX : Hid ((⟨(tellSegs (segs.take q)).toArray⟩ ++ ⟨#[47]⟩ : ByteArray) ++ ⟨x.toArray⟩ = ⟨(tellSegs (segs.take (q + 1))).toArray⟩) := by
        show _ = _
        have h1 : (⟨(tellSegs (segs.take q)).toArray⟩ : ByteArray) ++ ⟨#[47]⟩ = ⟨(tellSegs (segs.take q) ++ [47]).toArray⟩ := app_mk _ [47]
        rw [h1, app_mk, tellSegs_next segs q x hx]
      have hxz : (⟨x.toArray⟩ : ByteArray).size = x.length := size_mk x
      have z1 : (⟨#[47]⟩ : ByteArray).size = 1 := rfl
      generalize (⟨(tellSegs (segs.take q)).toArray⟩ : ByteArray) = acc at *
      generalize (⟨x.toArray⟩ : ByteArray) = xb at *
      have g0 : ∀ W : World, (Op.stringOp .add acc ⟨#[47]⟩).run Tryz.prog W = .ok (.string (acc ++ ⟨#[47]⟩)) W := fun W => run_string_add_sum W _ _ (by omega)
      have g1 : ∀ W : World, (Op.stringOp .add (acc ++ ⟨#[47]⟩) xb).run Tryz.prog W = .ok (.string (acc ++ ⟨#[47]⟩ ++ xb)) W := fun W => run_string_add_sum W _ _ (by simp only [ByteArray.size_append]; omega)
      clear hx hsz hxz z1 hlq
      go_wp2
      go_roundw
      case rel => exact ⟨q + 1, by omega, by go_num, by rw [HNX.out], trivial⟩
      case measure => (simp [intOf]; try omega)
    · have HQ : Hid (tellSegs (segs.take q) = tellSegs segs) := by show _ = _; rw [List.take_of_length_le (by omega)]
      rw [HQ.out]
      go_wp2
      go_ret
      exact ⟨rfl, rfl⟩

/-- A row of numbers that can be read. -/
def IntRow (w : World) (sp : Option Go.Addr) (xs : List Int) : Prop := ∀ (j : Nat) x, xs[j]? = some x → ∃ a0 : Go.Addr, sp = some a0 ∧ a0.block < w.heap.size ∧ w.cell? (a0.add j) = some (.int .i64 x)
theorem IntRow.below {w w' : World} {sp : Option Go.Addr} {xs : List Int} (h : IntRow w sp xs) (hb : Below w.heap.size w w') : IntRow w' sp xs := by
  intro j x hj
  obtain ⟨a0, h1, h2, h3⟩ := h j x hj
  refine ⟨a0, h1, Nat.lt_of_lt_of_le h2 hb.size, ?_⟩
  rw [← h3]
  exact hb.cell (p := a0.add j) (by rw [show (a0.add j).block = a0.block by unfold Go.Addr.add; split <;> rfl]; exact h2)
end Go.Proofs
