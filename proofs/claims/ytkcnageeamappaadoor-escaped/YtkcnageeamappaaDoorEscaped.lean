/-
  The walk of moorkeep.Escaped: it answers true for every text and every number.
-/
import Derived.Test.YtkcnageeamappaaDoorUndo
namespace Go.Proofs
open Go.RowKit Go.Moor

set_option maxHeartbeats 400000 in
theorem Tryd.short_any (s : ByteArray) (w : World) (hs : s.size ≤ maxLen) :
    Calls Tryd.prog 5 #[.string s, .int .i64 300] w fun e w' => e = .returned (.string ⟨(s.data.toList.take 300).toArray⟩) ∧ w' = w := by
  unfold maxLen at hs
  by_cases h : 300 < s.size
  · have HE : Hid (s.extract 0 300 = ⟨(s.data.toList.take 300).toArray⟩) := by
      show _ = _
      apply Tryd.bytes_ext
      rw [Lib.extract_data]
      simp
    go_enter Tryd.func5, Tryd.ntmps5
    go_wp2
    go_ret
    rw [← HE.out]
    exact ⟨rfl, rfl⟩
  · have HE : Hid (s = ⟨(s.data.toList.take 300).toArray⟩) := by
      show _ = _
      apply Tryd.bytes_ext
      rw [List.take_of_length_le (by simp; omega)]
    go_enter Tryd.func5, Tryd.ntmps5
    go_wp2
    go_ret
    rw [← HE.out]
    exact ⟨rfl, rfl⟩

set_option maxHeartbeats 400000 in
theorem Tryd.pick_any (c : Int) (w : World) (h0 : -(2 ^ 63) ≤ c) (h1 : c < 2 ^ 63) :
    Calls Tryd.prog 8 #[.int .i64 c, .int .i64 1099511627776] w fun e w' => (∃ p : Int, 0 ≤ p ∧ p < 1099511627776 ∧ e = .returned (.int .i64 p)) ∧ w' = w := by
  by_cases h : c < 0
  · go_enter Tryd.func8, Tryd.ntmps8
    go_wp2
    go_ret
    have e : (c + 1).tmod 1099511627776 = -((-(c + 1)) % 1099511627776) := by
      rw [← Int.tmod_eq_emod_of_nonneg (by omega), Int.neg_tmod, Int.neg_neg]
    refine ⟨⟨_, ?_, ?_, rfl⟩, rfl⟩ <;> omega
  · go_enter Tryd.func8, Tryd.ntmps8
    go_wp2
    go_ret
    refine ⟨⟨_, ?_, ?_, rfl⟩, rfl⟩ <;> omega

def rowAt (k : Nat) : Int := [0, 2, 4, 5, 6].getD k 0
def lastLen (t : List UInt8) : Nat → Nat
  | 0 => 0
  | k + 1 => (esc (rowAt k) t).length

def rowObj : Obj := .cells #[.int .i64 0, .int .i64 2, .int .i64 4, .int .i64 5, .int .i64 6] 3
theorem row_cell (w wr : World) (hb : Below (w.heap.size + 1) (w.alloc rowObj) wr) : ∀ k, k < 5 → wr.cell? ⟨w.heap.size, k, none⟩ = some (.int .i64 (rowAt k)) := by
  intro k hk
  rw [hb.cell (p := ⟨w.heap.size, k, none⟩) (by simp)]
  have e : (w.alloc rowObj).heap[w.heap.size]? = some rowObj := heap_alloc_new w rowObj
  match k, hk with
  | 0, _ => simp only [World.cell?, e]; rfl
  | 1, _ => simp only [World.cell?, e]; rfl
  | 2, _ => simp only [World.cell?, e]; rfl
  | 3, _ => simp only [World.cell?, e]; rfl
  | 4, _ => simp only [World.cell?, e]; rfl

theorem last_le (t : List UInt8) : ∀ k, k < 5 → lastLen t k ≤ (esc (rowAt k) t).length
  | 0, _ => Nat.zero_le _
  | 1, _ => by show (esc 0 t).length ≤ (esc 2 t).length; rw [esc_len, esc_len]; have := cnt_mono 0 2 sub02 t; omega
  | 2, _ => by show (esc 2 t).length ≤ (esc 4 t).length; rw [esc_len, esc_len]; have := cnt_mono 2 4 sub24 t; omega
  | 3, _ => by show (esc 4 t).length ≤ (esc 5 t).length; rw [esc_len, esc_len]; have := cnt_mono 4 5 sub45 t; omega
  | 4, _ => by show (esc 5 t).length ≤ (esc 6 t).length; rw [esc_len, esc_len]; have := cnt_mono 5 6 sub56 t; omega

set_option maxHeartbeats 4000000 in
theorem Tryd.escaped_any (s : ByteArray) (set m : Int) (w : World) (hs : s.size ≤ maxLen) (h0 : -(2 ^ 63) ≤ set) (h1 : set < 2 ^ 63) (hset : Tryd.Sets w) (hm : w.cell? ⟨2, 0, none⟩ = some (.int .i64 m)) (hz : 2 < w.heap.size) :
    Calls Tryd.prog 3 #[.string s, .int .i64 set] w fun e w' => e = .returned (.bool true) ∧ Below w.heap.size w w' := by
  have HM : Hid (w.cell? ⟨2, 0, none⟩ = some (.int .i64 m)) := hm
  have HS : Hid (Tryd.Sets w) := hset
  clear hm hset
  obtain ⟨t, ht⟩ : ∃ t, t = s.data.toList.take 300 := ⟨_, rfl⟩
  have htl : t.length ≤ 300 := by rw [ht]; exact List.length_take_le _ _
  have HT : Hid (t = s.data.toList.take 300) := ht
  clear ht
  go_enter Tryd.func3, Tryd.ntmps3
  go_wp2_with fail
  refine (Tryd.short_any s _ hs).mono ?_
  rw [← HT.out]
  rintro e w' ⟨rfl, rfl⟩
  have hl6 := esc_len 6 t
  have hc6 := cnt_le 6 t
  have hL6 : (esc 6 t).length ≤ 900 := by omega
  clear hl6 hc6
  go_wp2_with fail
  refine (Tryd.escape_any ⟨t.toArray⟩ 6 _ (by rw [size_mk]; omega) HS.out (by omega)).mono ?_
  rintro e W1 ⟨rfl, b1⟩
  have hz1 : 2 < W1.heap.size := Nat.lt_of_lt_of_le hz b1.size
  have HM1 : Hid (W1.cell? ⟨2, 0, none⟩ = some (.int .i64 m)) := Tryd.maxLen_below HM.out b1 hz
  have HS1 : Hid (Tryd.Sets W1) := Tryd.sets_below HS.out b1 (by omega)
  go_wp2_with fail
  refine (Tryd.unescape_any ⟨(esc 6 t).toArray⟩ m _ (by rw [size_mk]; omega) HM1.out hz1).mono ?_
  rintro e W2 ⟨rfl, b2⟩
  have HB : Hid (unesc (⟨(esc 6 t).toArray⟩ : ByteArray).data.toList = t) := by show _ = _; simpa using unesc_esc 6 has37 t
  rw [HB.out]
  have hz2 : 2 < W2.heap.size := Nat.lt_of_lt_of_le hz1 b2.size
  have HS2 : Hid (Tryd.Sets W2) := Tryd.sets_below HS1.out b2 (by omega)
  have hb2 := b1.trans (b2.mono b1.size)
  clear HM1 HS1 b1 b2 HB
  have HP : Hid (∀ (k : Nat) (h : k < (⟨(esc 6 t).toArray⟩ : ByteArray).size), 33 ≤ (⟨(esc 6 t).toArray⟩ : ByteArray)[k].toNat ∧ (⟨(esc 6 t).toArray⟩ : ByteArray)[k].toNat ≤ 126) := by
    intro k h
    exact esc6_bytes t _ (List.mem_of_getElem (i := k) (h := by simpa [ByteArray.size] using h) rfl)
  go_wp2_with fail
  go_loop [7] (fun i => ∃ k : Nat, k ≤ (⟨(esc 6 t).toArray⟩ : ByteArray).size ∧ i = .int .i64 k) (fun i => (⟨(esc 6 t).toArray⟩ : ByteArray).size - (intOf i).toNat)
  case atStart => exact ⟨0, Nat.zero_le _, rfl⟩
  case round =>
    obtain ⟨k, hk, rfl⟩ := hrel
    by_cases hlt : k < (⟨(esc 6 t).toArray⟩ : ByteArray).size
    · obtain ⟨q1, q2⟩ := HP.out k hlt
      have hlt2 : k < (esc 6 t).length := by simpa [size_mk] using hlt
      go_wp2
      all_goals
        go_round
        case rel => exact ⟨k + 1, by omega, by go_num⟩
        case measure => simp [intOf]; omega
    · have hge : (esc 6 t).length ≤ k := by rw [size_mk] at hlt; omega
      clear HP hlt hk
      go_wp2_with fail
      go_loopw [10, 11] (fun l i wr => ∃ q : Nat, q ≤ 5 ∧ i = .int .i64 q ∧ l = .int .i64 (lastLen t q) ∧ Below (W2.heap.size + 1) (W2.alloc rowObj) wr) (fun _ i _ => 5 - (intOf i).toNat)
      case atStart => exact ⟨0, by omega, rfl, rfl, Below.refl _ _⟩
      case round =>
        obtain ⟨q, hq, rfl, rfl, hbr⟩ := hrel
        have hzr : W2.heap.size + 1 ≤ wr.heap.size := by have := hbr.size; simpa using this
        have hbW : Below W2.heap.size W2 wr := ((Below.refl _ W2).alloc (Nat.le_refl _) rowObj).trans (hbr.mono (by omega))
        have HSr : Hid (Tryd.Sets wr) := Tryd.sets_below HS2.out hbW (by omega)
        by_cases hlt : q < 5
        · have hcell := row_cell W2 wr hbr q hlt
          have hel := esc_len (rowAt q) t
          have hcl := cnt_le (rowAt q) t
          have hla := last_le t q hlt
          have hle : t.length ≤ (esc (rowAt q) t).length := by omega
          have hN : (esc (rowAt q) t).length ≤ 900 := by omega
          have hmod : (((esc (rowAt q) t).length : Int) - (t.length : Int)) % 2 = 0 := by omega
          clear hel hcl
          go_wp2_with fail
          refine (Tryd.escape_any ⟨t.toArray⟩ (rowAt q) _ (by rw [size_mk]; omega) HSr.out (by omega)).mono ?_
          rintro e W3 ⟨rfl, b3⟩
          have hbr3 := hbr.trans (b3.mono hzr)
          clear b3 hcell
          go_wp2
          go_roundw
          case rel => exact ⟨q + 1, by omega, by go_num, rfl, hbr3⟩
          case measure => simp [intOf]; omega
        · have hzz : 2 < wr.heap.size := by omega
          have hq5 : 5 ≤ q := by omega
          clear hlt hq
          go_wp2_with fail
          refine (Tryd.pick_any set _ h0 h1).mono ?_
          rintro e w1 ⟨⟨p1, g1, g2, rfl⟩, rfl⟩
          have HE1 : Hid (esc (7 + p1) (⟨t.toArray⟩ : ByteArray).data.toList = t) := by show _ = _; rw [esc_none _ (Or.inr (by omega))]
          go_wp2_with fail
          refine (Tryd.escape_any ⟨t.toArray⟩ (7 + p1) _ (by rw [size_mk]; omega) HSr.out (by omega)).mono ?_
          rw [HE1.out]
          rintro e W3 ⟨rfl, b3⟩
          have hz3 : 2 < W3.heap.size := Nat.lt_of_lt_of_le hzz b3.size
          have HS3 : Hid (Tryd.Sets W3) := Tryd.sets_below HSr.out b3 (by omega)
          have hb3 := hbW.trans (b3.mono hbW.size)
          clear HE1 b3 HSr hbr hzr
          go_wp2_with fail
          refine (Tryd.pick_any set _ h0 h1).mono ?_
          rintro e w1 ⟨⟨p2, g3, g4, rfl⟩, rfl⟩
          have HE2 : Hid (esc (-1 - p2) (⟨t.toArray⟩ : ByteArray).data.toList = t) := by show _ = _; rw [esc_none _ (Or.inl (by omega))]
          go_wp2_with fail
          refine (Tryd.escape_any ⟨t.toArray⟩ (-1 - p2) _ (by rw [size_mk]; omega) HS3.out (by omega)).mono ?_
          rw [HE2.out]
          rintro e W4 ⟨rfl, b4⟩
          have hz4 : 2 < W4.heap.size := Nat.lt_of_lt_of_le hz3 b4.size
          have HS4 : Hid (Tryd.Sets W4) := Tryd.sets_below HS3.out b4 (by omega)
          have hb4 := hb3.trans (b4.mono hb3.size)
          clear HE2 b4 HS3
          go_wp2_with fail
          refine (Tryd.escape_any ⟨#[97, 122, 32, 65, 90, 48, 57, 45, 46, 95, 126]⟩ 6 _ (by decide) HS4.out (by omega)).mono ?_
          rw [show esc 6 (⟨#[97, 122, 32, 65, 90, 48, 57, 45, 46, 95, 126]⟩ : ByteArray).data.toList = [97, 122, 37, 50, 48, 65, 90, 48, 57, 45, 46, 95, 126] from plain_text]
          rintro e W5 ⟨rfl, b5⟩
          have hb5 := hb2.trans ((hb4.trans (b5.mono hb4.size)).mono hb2.size)
          go_wp2
          go_ret
          exact ⟨rfl, hb5⟩
end Go.Proofs
