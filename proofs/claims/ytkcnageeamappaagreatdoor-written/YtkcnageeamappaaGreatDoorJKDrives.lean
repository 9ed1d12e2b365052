/-
  What Drives of package moorkeep answers.
-/
import Derived.Test.YtkcnageeamappaaGreatDoorJKEnv
import Derived.Test.YtkcnageeamappaaGreatDoorJLaidK
namespace Go.Proofs
open Go.RowKit Go.Moor

theorem great_of (k : Nat) (h : (k : Int) < 26) : greatB (65 + k).toUInt8 := by
  have h : (65 + k).toUInt8.toNat = 65 + k := by
    show (65 + k) % 256 = _
    omega
  unfold greatB
  omega
theorem segRow0_take {w : World} {sp : Option Go.Addr} {cap : Nat} {segs : List Bs} (h : SegRow0 w (.slice sp segs.length cap) segs) (k : Nat) (hk : k ≤ segs.length) : SegRow0 w (.slice sp k cap) (segs.take k) := by
  obtain ⟨sp', cap', hv, h1, h2, h3⟩ := h
  injection hv with e1 e2 e3
  subst e1
  subst e3
  refine ⟨sp, cap, by rw [List.length_take, Nat.min_eq_left hk], by rw [List.length_take]; omega, h2, fun hn => ?_⟩
  obtain ⟨g, hg, hc⟩ := h3 (by intro e; rw [e] at hn; simp at hn)
  refine ⟨g, hg, fun j x hj => hc j x ?_⟩
  rw [List.getElem?_take] at hj
  split at hj
  · exact hj
  · cases hj

set_option maxHeartbeats 16000000 in
set_option maxRecDepth 8000 in
theorem Tryz.Drives_any (a u : Int) (sp : Option Go.Addr) (cap : Nat) (xs : List Int) (w : World) (ha0 : -(2 ^ 63) ≤ a) (ha1 : a < 2 ^ 63) (hu0 : -(2 ^ 63) ≤ u) (hu1 : u < 2 ^ 63) (hx : ∀ x ∈ xs, -9223372036854775808 ≤ x ∧ x ≤ 9223372036854775807) (hrow : IntRow w sp xs) (henv : Tryz.Env2 w) :
    Calls Tryz.prog 10 #[.int .i64 a, .slice sp xs.length cap, .int .i64 u] w fun e w' => e = .returned (.bool true) ∧ Below w.heap.size w w' := by
  have HPL : Hid (∀ w1, Calls Tryz.prog 14 #[.int .i64 a, .int .i64 26] w1 fun e w' => e = .returned (.int .i64 (pickN a 26)) ∧ w' = w1) := fun w1 => Tryz.pick_fun a 26 w1 ha0 ha1 (by omega) (by omega)
  have HPU : Hid (∀ w1, Calls Tryz.prog 14 #[.int .i64 u, .int .i64 7] w1 fun e w' => e = .returned (.int .i64 (pickN u 7)) ∧ w' = w1) := fun w1 => Tryz.pick_fun u 7 w1 hu0 hu1 (by omega) (by omega)
  have hk := pickN_lt a 26 (by omega)
  have hn := pickN_lt u 7 (by omega)
  generalize pickN a 26 = k at *
  generalize pickN u 7 = n at *
  have hn6 : n ≤ 6 := by omega
  have HG0 : Hid (greatB (65 + k).toUInt8) := great_of k hk
  have HW : Hid (∀ w1, Below w.heap.size w w1 → Calls Tryz.prog 24 #[.slice sp xs.length cap, .int .i64 4] w1 fun e w' => ∃ (v : Value) (ls : List Bs), e = .returned v ∧ w'.ownsRow w1.heap.size 9 1 v ls.length (strs ls) ∧ ls.length = min xs.length 4 ∧ (∀ p ∈ ls, wordB p ∧ p.length ≤ 4) ∧ Below w1.heap.size w1 w') := fun w1 h1 => Tryz.words_any sp cap xs 4 w1 (by omega) hx (hrow.below h1)
  have HE : Hid (∀ w1, Below w.heap.size w w1 → Tryz.Env2 w1) := fun w1 h1 => henv.below h1
  have hcv : (convert 47 9 (.slice (some ⟨w.heap.size, 0, none⟩) 1 1)).run Tryz.prog (w.alloc (.cells #[.int .u8 (65 + (k : Int))] 5)) = .ok (.string ⟨#[(65 + k).toUInt8]⟩) (w.alloc (.cells #[.int .u8 (65 + (k : Int))] 5)) :=
    run_convert_bytes_back _ 47 9 5 ⟨w.heap.size, 0, none⟩ 1 [(65 + k).toUInt8] Tryz.underlying47 Tryz.underlying5 Tryz.underlying9 (fun i hi => by
      have : i = 0 := by simpa using hi
      subst this
      show World.cell? _ ⟨w.heap.size, 0, none⟩ = _
      rw [cell_heap (alloc_here w _ _) 0]
      have : (65 + k).toUInt8.toNat = 65 + k := by
        show (65 + k) % 256 = _
        omega
      simp
      omega)
  clear hrow henv hx ha0 ha1 hu0 hu1
  go_enter Tryz.func10, Tryz.ntmps10
  go_wp2_with fail
  refine (HPL.out w).mono ?_
  rintro e W0 ⟨rfl, hw0⟩
  have hw0 := hw0.symm
  subst hw0
  generalize (65 + k).toUInt8 = c at *
  have HG : Hid (greatB c) := HG0.out
  go_wp2_with fail
  refine (HW.out _ ((Below.refl _ _).alloc (Nat.le_refl _) _)).mono ?_
  rintro e w2 ⟨v, ls, rfl, hown, hlen, hls, hb2⟩
  have HB2 : Hid (Below w.heap.size w w2) := ((Below.refl _ _).alloc (Nat.le_refl _) _).trans (hb2.mono (by simp))
  obtain ⟨sp2, cap2, hvf, hnc, hcm, hf2⟩ := own_shape hown
  subst hvf
  have HL : Hid (∀ p ∈ ls, wordB p ∧ p.length ≤ 4) := hls
  have hl4 : ls.length ≤ 4 := by omega
  have HS : Hid (∀ W1, Below w2.heap.size w2 W1 → SegRow0 W1 (.slice sp2 ls.length cap2) ls) := fun W1 h1 => (own_seg (own_below hown h1)).1
  have hT : ∀ (t b r : Bs) (W1 : World), Below w2.heap.size w2 W1 → parse hostTell t b = .ok r → Calls Tryz.prog 26 #[.string ⟨t.toArray⟩, .string ⟨b.toArray⟩, .string ⟨r.toArray⟩] W1 fun e w' => e = .returned (.bool true) ∧ Below w2.heap.size w2 w' := by
    intro t b r W1 h1 hp
    have hlen := parse_small hp
    refine (Tryz.told_any t b r W1 (by omega) (by omega) (HE.out W1 (HB2.out.trans (h1.mono HB2.out.size))) hp).mono ?_
    rintro e w' ⟨rfl, hb⟩
    exact ⟨rfl, h1.trans (hb.mono h1.size)⟩
  have HT1 : Hid (∀ W1, Below w2.heap.size w2 W1 → Calls Tryz.prog 26 #[.string (⟨#[102, 105, 108, 101, 58, 47, 47, 47]⟩ ++ ⟨[c].toArray⟩ ++ ⟨#[124]⟩ ++ ⟨(tellSegs ls).toArray⟩ ++ ⟨(ups n).toArray⟩ ++ ⟨#[47, 101, 110, 100]⟩), .string (⟨#[]⟩), .string (⟨#[102, 105, 108, 101, 58, 47, 47, 47]⟩ ++ ⟨[c].toArray⟩ ++ ⟨#[58]⟩ ++ ⟨(tellSegs (ls.take (ls.length - n))).toArray⟩ ++ ⟨#[47, 101, 110, 100]⟩)] W1 fun e w' => e = .returned (.bool true) ∧ Below w2.heap.size w2 w') := by
    intro W1 h1
    have hd := drive1 c HG.out ls HL.out hl4 n hn6
    have k1 := hT _ _ _ W1 h1 hd
    simp only [← app_mk] at k1
    exact k1
  have HT2 : Hid (∀ W1, Below w2.heap.size w2 W1 → Calls Tryz.prog 26 #[.string (⟨#[102, 105, 108, 101, 58]⟩ ++ ⟨[c].toArray⟩ ++ ⟨#[58]⟩ ++ ⟨(tellSegs ls).toArray⟩ ++ ⟨#[47, 101, 110, 100]⟩), .string (⟨#[]⟩), .string (⟨#[102, 105, 108, 101, 58, 47, 47, 47]⟩ ++ ⟨[c].toArray⟩ ++ ⟨#[58]⟩ ++ ⟨(tellSegs ls).toArray⟩ ++ ⟨#[47, 101, 110, 100]⟩)] W1 fun e w' => e = .returned (.bool true) ∧ Below w2.heap.size w2 w') := by
    intro W1 h1
    have hd := drive2 c HG.out ls HL.out hl4
    have k1 := hT _ _ _ W1 h1 hd
    simp only [← app_mk] at k1
    exact k1
  have HT3 : Hid (∀ W1, Below w2.heap.size w2 W1 → Calls Tryz.prog 26 #[.string (⟨#[102, 105, 108, 101, 58, 47, 47, 76, 79, 67, 65, 76, 72, 79, 83, 84]⟩ ++ ⟨(tellSegs ls).toArray⟩ ++ ⟨#[47, 101, 110, 100]⟩), .string (⟨#[]⟩), .string (⟨#[102, 105, 108, 101, 58, 47, 47]⟩ ++ ⟨(tellSegs ls).toArray⟩ ++ ⟨#[47, 101, 110, 100]⟩)] W1 fun e w' => e = .returned (.bool true) ∧ Below w2.heap.size w2 w') := by
    intro W1 h1
    have hd := drive3 ls HL.out hl4
    have k1 := hT _ _ _ W1 h1 hd
    simp only [← app_mk] at k1
    exact k1
  have HT4 : Hid (∀ W1, Below w2.heap.size w2 W1 → Calls Tryz.prog 26 #[.string (⟨#[47, 120]⟩), .string (⟨#[102, 105, 108, 101, 58, 47, 47, 47]⟩ ++ ⟨[c].toArray⟩ ++ ⟨#[58]⟩ ++ ⟨(tellSegs ls).toArray⟩ ++ ⟨#[47, 101, 110, 100]⟩), .string (⟨#[102, 105, 108, 101, 58, 47, 47, 47]⟩ ++ ⟨[c].toArray⟩ ++ ⟨#[58, 47, 120]⟩)] W1 fun e w' => e = .returned (.bool true) ∧ Below w2.heap.size w2 w') := by
    intro W1 h1
    have hd := drive4 c HG.out ls HL.out hl4
    have k1 := hT _ _ _ W1 h1 hd
    simp only [← app_mk] at k1
    exact k1
  have HT5 : Hid (∀ W1, Below w2.heap.size w2 W1 → Calls Tryz.prog 26 #[.string (⟨[c].toArray⟩ ++ ⟨#[124, 47, 121]⟩), .string (⟨#[102, 105, 108, 101, 58, 47, 47, 104, 47, 122]⟩ ++ ⟨(tellSegs ls).toArray⟩), .string (⟨#[102, 105, 108, 101, 58, 47, 47, 104, 47]⟩ ++ ⟨[c].toArray⟩ ++ ⟨#[58, 47, 121]⟩)] W1 fun e w' => e = .returned (.bool true) ∧ Below w2.heap.size w2 w') := by
    intro W1 h1
    have hd := drive5 c HG.out ls HL.out hl4
    have k1 := hT _ _ _ W1 h1 hd
    simp only [← app_mk] at k1
    exact k1
  have HPA : Hid (∀ W1, Below w2.heap.size w2 W1 → Calls Tryz.prog 25 #[.slice sp2 ls.length cap2] W1 fun e w' => e = .returned (.string ⟨(tellSegs ls).toArray⟩) ∧ w' = W1) := fun W1 h1 => Tryz.path_any ls _ W1 (HS.out W1 h1) (by omega) (fun x hx => by have := (HL.out x hx).2; omega)
  have HPB : Hid (∀ W1, Below w2.heap.size w2 W1 → n < ls.length → Calls Tryz.prog 25 #[.slice sp2 (ls.length - n) cap2] W1 fun e w' => e = .returned (.string ⟨(tellSegs (ls.take (ls.length - n))).toArray⟩) ∧ w' = W1) := fun W1 h1 _ => Tryz.path_any (ls.take (ls.length - n)) _ W1 (segRow0_take (HS.out W1 h1) _ (by omega)) (by rw [List.length_take]; omega) (fun x hx => by have := (HL.out x (List.mem_of_mem_take hx)).2; omega)
  have HPN : Hid (∀ W1, ls.length ≤ n → Calls Tryz.prog 25 #[.slice none 0 0] W1 fun e w' => e = .returned (.string ⟨(tellSegs (ls.take (ls.length - n))).toArray⟩) ∧ w' = W1) := by
    intro W1 h1
    rw [show ls.take (ls.length - n) = [] by rw [show ls.length - n = 0 by omega]; rfl]
    exact Tryz.path_any [] _ W1 ⟨none, 0, rfl, Nat.le_refl _, by decide, fun h => absurd rfl h⟩ (by decide) (by simp)
  have l1 : (tellSegs ls).length ≤ 20 := by have := tellSegs_small 4 ls (fun p hp => (HL.out p hp).2); omega
  have l2 : (tellSegs (ls.take (ls.length - n))).length ≤ 20 := by
    have := tellSegs_small 4 (ls.take (ls.length - n)) (fun p hp => (HL.out p (List.mem_of_mem_take hp)).2)
    rw [List.length_take] at this
    omega
  have l3 : (ups n).length ≤ 18 := by rw [ups_len]; omega
  have l4 : ([c] : Bs).length = 1 := rfl
  have HU : Hid (∀ q, q < n → (⟨(ups q).toArray⟩ : ByteArray) ++ ⟨#[47, 46, 46]⟩ = ⟨(ups (q + 1)).toArray⟩ ∧ (⟨(ups q).toArray⟩ : ByteArray).size = 3 * q) := fun q _ => ⟨by rw [ups_next]; exact app_mk _ [47, 46, 46], by rw [size_mk, ups_len]⟩
  clear hown hls hb2 hf2 hT hlen
  unfold maxLen at hcm
  go_wp2_with fail
  refine (HPU.out w2).mono ?_
  rintro e W0 ⟨rfl, hw0⟩
  have hw0 := hw0.symm
  subst hw0
  go_wp2_with fail
  go_loopw [9, 10] (fun s i wr => ∃ q : Nat, q ≤ n ∧ i = .int .i64 ((n - q : Nat)) ∧ s = .string ⟨(ups q).toArray⟩ ∧ wr = w2) (fun _ i _ => (intOf i).toNat)
  case atStart => exact ⟨0, Nat.zero_le _, rfl, rfl, rfl⟩
  case round =>
    obtain ⟨q, hq, rfl, rfl, rfl⟩ := hrel
    by_cases hlt : q < n
    · obtain ⟨hu1, hu2⟩ := HU.out q hlt
      have HU1 : Hid (_ = _) := hu1
      have hnq : n - q = (n - q - 1) + 1 := by omega
      generalize hm : n - q - 1 = m at *
      rw [hnq]
      generalize hs : (⟨(ups q).toArray⟩ : ByteArray) = s at *
      have g0 : ∀ W : World, (Op.stringOp .add s ⟨#[47, 46, 46]⟩).run Tryz.prog W = .ok (.string (s ++ ⟨#[47, 46, 46]⟩)) W := fun W => run_string_add_sum W _ _ (by rw [hu2]; show 3 * q + 3 ≤ _; omega)
      clear hs hu1 hu2
      go_wp2
      go_roundw
      case rel => exact ⟨q + 1, by omega, by rw [show n - (q + 1) = m by omega], by rw [HU1.out], trivial⟩
      case measure => (simp [intOf]; try omega)
    · have hqn : q = n := by omega
      subst hqn
      rw [Nat.sub_self]
      rw [← size_mk] at l1 l2 l3 l4
      have z0 : (⟨#[102, 105, 108, 101, 58, 47, 47, 47]⟩ : ByteArray).size = 8 := rfl
      have z1 : (⟨#[124]⟩ : ByteArray).size = 1 := rfl
      have z2 : (⟨#[47, 101, 110, 100]⟩ : ByteArray).size = 4 := rfl
      have z3 : (⟨#[58]⟩ : ByteArray).size = 1 := rfl
      have z4 : (⟨#[102, 105, 108, 101, 58]⟩ : ByteArray).size = 5 := rfl
      have z5 : (⟨#[102, 105, 108, 101, 58, 47, 47, 76, 79, 67, 65, 76, 72, 79, 83, 84]⟩ : ByteArray).size = 16 := rfl
      have z6 : (⟨#[102, 105, 108, 101, 58, 47, 47]⟩ : ByteArray).size = 7 := rfl
      have z7 : (⟨#[58, 47, 120]⟩ : ByteArray).size = 3 := rfl
      have z8 : (⟨#[124, 47, 121]⟩ : ByteArray).size = 3 := rfl
      have z9 : (⟨#[102, 105, 108, 101, 58, 47, 47, 104, 47, 122]⟩ : ByteArray).size = 10 := rfl
      have z10 : (⟨#[102, 105, 108, 101, 58, 47, 47, 104, 47]⟩ : ByteArray).size = 9 := rfl
      have z11 : (⟨#[58, 47, 121]⟩ : ByteArray).size = 3 := rfl
      generalize (⟨(tellSegs ls).toArray⟩ : ByteArray) = pb at *
      generalize (⟨(tellSegs (ls.take (ls.length - q))).toArray⟩ : ByteArray) = bb at *
      generalize (⟨(ups q).toArray⟩ : ByteArray) = tb at *
      have hcb : (⟨#[c]⟩ : ByteArray) = ⟨[c].toArray⟩ := rfl
      rw [hcb]
      generalize (⟨[c].toArray⟩ : ByteArray) = cb at *
      clear hcb
      go_wp2_with fail
      refine (HPA.out wr (Below.refl _ _)).mono ?_
      rintro e W0 ⟨rfl, hw0⟩
      have hw0 := hw0.symm
      subst hw0
      go_wp2_with fail
      refine (HPU.out wr).mono ?_
      rintro e W0 ⟨rfl, hw0⟩
      have hw0 := hw0.symm
      subst hw0
      clear HPU HU HPL HW HE HS
      by_cases hlt : q < ls.length
      · have g0 : ∀ W : World, (Op.stringOp .add (⟨#[102, 105, 108, 101, 58, 47, 47, 47]⟩) cb).run Tryz.prog W = .ok (.string (⟨#[102, 105, 108, 101, 58, 47, 47, 47]⟩ ++ cb)) W := fun W => run_string_add_sum W _ _ (by (try simp only [ByteArray.size_append]); omega)
        have g1 : ∀ W : World, (Op.stringOp .add (⟨#[102, 105, 108, 101, 58, 47, 47, 47]⟩ ++ cb) ⟨#[124]⟩).run Tryz.prog W = .ok (.string (⟨#[102, 105, 108, 101, 58, 47, 47, 47]⟩ ++ cb ++ ⟨#[124]⟩)) W := fun W => run_string_add_sum W _ _ (by (try simp only [ByteArray.size_append]); omega)
        have g2 : ∀ W : World, (Op.stringOp .add (⟨#[102, 105, 108, 101, 58, 47, 47, 47]⟩ ++ cb ++ ⟨#[124]⟩) pb).run Tryz.prog W = .ok (.string (⟨#[102, 105, 108, 101, 58, 47, 47, 47]⟩ ++ cb ++ ⟨#[124]⟩ ++ pb)) W := fun W => run_string_add_sum W _ _ (by (try simp only [ByteArray.size_append]); omega)
        have g3 : ∀ W : World, (Op.stringOp .add (⟨#[102, 105, 108, 101, 58, 47, 47, 47]⟩ ++ cb ++ ⟨#[124]⟩ ++ pb) tb).run Tryz.prog W = .ok (.string (⟨#[102, 105, 108, 101, 58, 47, 47, 47]⟩ ++ cb ++ ⟨#[124]⟩ ++ pb ++ tb)) W := fun W => run_string_add_sum W _ _ (by (try simp only [ByteArray.size_append]); omega)
        have g4 : ∀ W : World, (Op.stringOp .add (⟨#[102, 105, 108, 101, 58, 47, 47, 47]⟩ ++ cb ++ ⟨#[124]⟩ ++ pb ++ tb) ⟨#[47, 101, 110, 100]⟩).run Tryz.prog W = .ok (.string (⟨#[102, 105, 108, 101, 58, 47, 47, 47]⟩ ++ cb ++ ⟨#[124]⟩ ++ pb ++ tb ++ ⟨#[47, 101, 110, 100]⟩)) W := fun W => run_string_add_sum W _ _ (by (try simp only [ByteArray.size_append]); omega)
        have g5 : ∀ W : World, (Op.stringOp .add (⟨#[102, 105, 108, 101, 58, 47, 47, 47]⟩ ++ cb) ⟨#[58]⟩).run Tryz.prog W = .ok (.string (⟨#[102, 105, 108, 101, 58, 47, 47, 47]⟩ ++ cb ++ ⟨#[58]⟩)) W := fun W => run_string_add_sum W _ _ (by (try simp only [ByteArray.size_append]); omega)
        have g6 : ∀ W : World, (Op.stringOp .add (⟨#[102, 105, 108, 101, 58, 47, 47, 47]⟩ ++ cb ++ ⟨#[58]⟩) bb).run Tryz.prog W = .ok (.string (⟨#[102, 105, 108, 101, 58, 47, 47, 47]⟩ ++ cb ++ ⟨#[58]⟩ ++ bb)) W := fun W => run_string_add_sum W _ _ (by (try simp only [ByteArray.size_append]); omega)
        have g7 : ∀ W : World, (Op.stringOp .add (⟨#[102, 105, 108, 101, 58, 47, 47, 47]⟩ ++ cb ++ ⟨#[58]⟩ ++ bb) ⟨#[47, 101, 110, 100]⟩).run Tryz.prog W = .ok (.string (⟨#[102, 105, 108, 101, 58, 47, 47, 47]⟩ ++ cb ++ ⟨#[58]⟩ ++ bb ++ ⟨#[47, 101, 110, 100]⟩)) W := fun W => run_string_add_sum W _ _ (by (try simp only [ByteArray.size_append]); omega)
        go_wp2_with fail
        refine (HPB.out wr (Below.refl _ _) hlt).mono ?_
        rintro e W0 ⟨rfl, hw0⟩
        have hw0 := hw0.symm
        subst hw0
        go_wp2_with fail
        refine (HT1.out wr (Below.refl _ _)).mono ?_
        rintro e v1 ⟨rfl, b1⟩
        clear g0 g1 g2 g3 g4 g5 g6 g7
        have g0 : ∀ W : World, (Op.stringOp .add (⟨#[102, 105, 108, 101, 58]⟩) cb).run Tryz.prog W = .ok (.string (⟨#[102, 105, 108, 101, 58]⟩ ++ cb)) W := fun W => run_string_add_sum W _ _ (by (try simp only [ByteArray.size_append]); omega)
        have g1 : ∀ W : World, (Op.stringOp .add (⟨#[102, 105, 108, 101, 58]⟩ ++ cb) ⟨#[58]⟩).run Tryz.prog W = .ok (.string (⟨#[102, 105, 108, 101, 58]⟩ ++ cb ++ ⟨#[58]⟩)) W := fun W => run_string_add_sum W _ _ (by (try simp only [ByteArray.size_append]); omega)
        have g2 : ∀ W : World, (Op.stringOp .add (⟨#[102, 105, 108, 101, 58]⟩ ++ cb ++ ⟨#[58]⟩) pb).run Tryz.prog W = .ok (.string (⟨#[102, 105, 108, 101, 58]⟩ ++ cb ++ ⟨#[58]⟩ ++ pb)) W := fun W => run_string_add_sum W _ _ (by (try simp only [ByteArray.size_append]); omega)
        have g3 : ∀ W : World, (Op.stringOp .add (⟨#[102, 105, 108, 101, 58]⟩ ++ cb ++ ⟨#[58]⟩ ++ pb) ⟨#[47, 101, 110, 100]⟩).run Tryz.prog W = .ok (.string (⟨#[102, 105, 108, 101, 58]⟩ ++ cb ++ ⟨#[58]⟩ ++ pb ++ ⟨#[47, 101, 110, 100]⟩)) W := fun W => run_string_add_sum W _ _ (by (try simp only [ByteArray.size_append]); omega)
        have g4 : ∀ W : World, (Op.stringOp .add (⟨#[102, 105, 108, 101, 58, 47, 47, 47]⟩) cb).run Tryz.prog W = .ok (.string (⟨#[102, 105, 108, 101, 58, 47, 47, 47]⟩ ++ cb)) W := fun W => run_string_add_sum W _ _ (by (try simp only [ByteArray.size_append]); omega)
        have g5 : ∀ W : World, (Op.stringOp .add (⟨#[102, 105, 108, 101, 58, 47, 47, 47]⟩ ++ cb) ⟨#[58]⟩).run Tryz.prog W = .ok (.string (⟨#[102, 105, 108, 101, 58, 47, 47, 47]⟩ ++ cb ++ ⟨#[58]⟩)) W := fun W => run_string_add_sum W _ _ (by (try simp only [ByteArray.size_append]); omega)
        have g6 : ∀ W : World, (Op.stringOp .add (⟨#[102, 105, 108, 101, 58, 47, 47, 47]⟩ ++ cb ++ ⟨#[58]⟩) pb).run Tryz.prog W = .ok (.string (⟨#[102, 105, 108, 101, 58, 47, 47, 47]⟩ ++ cb ++ ⟨#[58]⟩ ++ pb)) W := fun W => run_string_add_sum W _ _ (by (try simp only [ByteArray.size_append]); omega)
        have g7 : ∀ W : World, (Op.stringOp .add (⟨#[102, 105, 108, 101, 58, 47, 47, 47]⟩ ++ cb ++ ⟨#[58]⟩ ++ pb) ⟨#[47, 101, 110, 100]⟩).run Tryz.prog W = .ok (.string (⟨#[102, 105, 108, 101, 58, 47, 47, 47]⟩ ++ cb ++ ⟨#[58]⟩ ++ pb ++ ⟨#[47, 101, 110, 100]⟩)) W := fun W => run_string_add_sum W _ _ (by (try simp only [ByteArray.size_append]); omega)
        go_wp2_with fail
        refine (HT2.out _ b1).mono ?_
        rintro e v2 ⟨rfl, b2⟩
        clear g0 g1 g2 g3 g4 g5 g6 g7
        have g0 : ∀ W : World, (Op.stringOp .add (⟨#[102, 105, 108, 101, 58, 47, 47, 76, 79, 67, 65, 76, 72, 79, 83, 84]⟩) pb).run Tryz.prog W = .ok (.string (⟨#[102, 105, 108, 101, 58, 47, 47, 76, 79, 67, 65, 76, 72, 79, 83, 84]⟩ ++ pb)) W := fun W => run_string_add_sum W _ _ (by (try simp only [ByteArray.size_append]); omega)
        have g1 : ∀ W : World, (Op.stringOp .add (⟨#[102, 105, 108, 101, 58, 47, 47, 76, 79, 67, 65, 76, 72, 79, 83, 84]⟩ ++ pb) ⟨#[47, 101, 110, 100]⟩).run Tryz.prog W = .ok (.string (⟨#[102, 105, 108, 101, 58, 47, 47, 76, 79, 67, 65, 76, 72, 79, 83, 84]⟩ ++ pb ++ ⟨#[47, 101, 110, 100]⟩)) W := fun W => run_string_add_sum W _ _ (by (try simp only [ByteArray.size_append]); omega)
        have g2 : ∀ W : World, (Op.stringOp .add (⟨#[102, 105, 108, 101, 58, 47, 47]⟩) pb).run Tryz.prog W = .ok (.string (⟨#[102, 105, 108, 101, 58, 47, 47]⟩ ++ pb)) W := fun W => run_string_add_sum W _ _ (by (try simp only [ByteArray.size_append]); omega)
        have g3 : ∀ W : World, (Op.stringOp .add (⟨#[102, 105, 108, 101, 58, 47, 47]⟩ ++ pb) ⟨#[47, 101, 110, 100]⟩).run Tryz.prog W = .ok (.string (⟨#[102, 105, 108, 101, 58, 47, 47]⟩ ++ pb ++ ⟨#[47, 101, 110, 100]⟩)) W := fun W => run_string_add_sum W _ _ (by (try simp only [ByteArray.size_append]); omega)
        go_wp2_with fail
        refine (HT3.out _ b2).mono ?_
        rintro e v3 ⟨rfl, b3⟩
        clear g0 g1 g2 g3
        have g0 : ∀ W : World, (Op.stringOp .add (⟨#[102, 105, 108, 101, 58, 47, 47, 47]⟩) cb).run Tryz.prog W = .ok (.string (⟨#[102, 105, 108, 101, 58, 47, 47, 47]⟩ ++ cb)) W := fun W => run_string_add_sum W _ _ (by (try simp only [ByteArray.size_append]); omega)
        have g1 : ∀ W : World, (Op.stringOp .add (⟨#[102, 105, 108, 101, 58, 47, 47, 47]⟩ ++ cb) ⟨#[58]⟩).run Tryz.prog W = .ok (.string (⟨#[102, 105, 108, 101, 58, 47, 47, 47]⟩ ++ cb ++ ⟨#[58]⟩)) W := fun W => run_string_add_sum W _ _ (by (try simp only [ByteArray.size_append]); omega)
        have g2 : ∀ W : World, (Op.stringOp .add (⟨#[102, 105, 108, 101, 58, 47, 47, 47]⟩ ++ cb ++ ⟨#[58]⟩) pb).run Tryz.prog W = .ok (.string (⟨#[102, 105, 108, 101, 58, 47, 47, 47]⟩ ++ cb ++ ⟨#[58]⟩ ++ pb)) W := fun W => run_string_add_sum W _ _ (by (try simp only [ByteArray.size_append]); omega)
        have g3 : ∀ W : World, (Op.stringOp .add (⟨#[102, 105, 108, 101, 58, 47, 47, 47]⟩ ++ cb ++ ⟨#[58]⟩ ++ pb) ⟨#[47, 101, 110, 100]⟩).run Tryz.prog W = .ok (.string (⟨#[102, 105, 108, 101, 58, 47, 47, 47]⟩ ++ cb ++ ⟨#[58]⟩ ++ pb ++ ⟨#[47, 101, 110, 100]⟩)) W := fun W => run_string_add_sum W _ _ (by (try simp only [ByteArray.size_append]); omega)
        have g4 : ∀ W : World, (Op.stringOp .add (⟨#[102, 105, 108, 101, 58, 47, 47, 47]⟩ ++ cb) ⟨#[58, 47, 120]⟩).run Tryz.prog W = .ok (.string (⟨#[102, 105, 108, 101, 58, 47, 47, 47]⟩ ++ cb ++ ⟨#[58, 47, 120]⟩)) W := fun W => run_string_add_sum W _ _ (by (try simp only [ByteArray.size_append]); omega)
        go_wp2_with fail
        refine (HT4.out _ b3).mono ?_
        rintro e v4 ⟨rfl, b4⟩
        clear g0 g1 g2 g3 g4
        have g0 : ∀ W : World, (Op.stringOp .add (cb) ⟨#[124, 47, 121]⟩).run Tryz.prog W = .ok (.string (cb ++ ⟨#[124, 47, 121]⟩)) W := fun W => run_string_add_sum W _ _ (by (try simp only [ByteArray.size_append]); omega)
        have g1 : ∀ W : World, (Op.stringOp .add (⟨#[102, 105, 108, 101, 58, 47, 47, 104, 47, 122]⟩) pb).run Tryz.prog W = .ok (.string (⟨#[102, 105, 108, 101, 58, 47, 47, 104, 47, 122]⟩ ++ pb)) W := fun W => run_string_add_sum W _ _ (by (try simp only [ByteArray.size_append]); omega)
        have g2 : ∀ W : World, (Op.stringOp .add (⟨#[102, 105, 108, 101, 58, 47, 47, 104, 47]⟩) cb).run Tryz.prog W = .ok (.string (⟨#[102, 105, 108, 101, 58, 47, 47, 104, 47]⟩ ++ cb)) W := fun W => run_string_add_sum W _ _ (by (try simp only [ByteArray.size_append]); omega)
        have g3 : ∀ W : World, (Op.stringOp .add (⟨#[102, 105, 108, 101, 58, 47, 47, 104, 47]⟩ ++ cb) ⟨#[58, 47, 121]⟩).run Tryz.prog W = .ok (.string (⟨#[102, 105, 108, 101, 58, 47, 47, 104, 47]⟩ ++ cb ++ ⟨#[58, 47, 121]⟩)) W := fun W => run_string_add_sum W _ _ (by (try simp only [ByteArray.size_append]); omega)
        go_wp2_with fail
        refine (HT5.out _ b4).mono ?_
        rintro e v5 ⟨rfl, b5⟩
        clear g0 g1 g2 g3
        go_wp2_with fail
        go_ret
        exact ⟨rfl, HB2.out.trans (b5.mono HB2.out.size)⟩
      · have g0 : ∀ W : World, (Op.stringOp .add (⟨#[102, 105, 108, 101, 58, 47, 47, 47]⟩) cb).run Tryz.prog W = .ok (.string (⟨#[102, 105, 108, 101, 58, 47, 47, 47]⟩ ++ cb)) W := fun W => run_string_add_sum W _ _ (by (try simp only [ByteArray.size_append]); omega)
        have g1 : ∀ W : World, (Op.stringOp .add (⟨#[102, 105, 108, 101, 58, 47, 47, 47]⟩ ++ cb) ⟨#[124]⟩).run Tryz.prog W = .ok (.string (⟨#[102, 105, 108, 101, 58, 47, 47, 47]⟩ ++ cb ++ ⟨#[124]⟩)) W := fun W => run_string_add_sum W _ _ (by (try simp only [ByteArray.size_append]); omega)
        have g2 : ∀ W : World, (Op.stringOp .add (⟨#[102, 105, 108, 101, 58, 47, 47, 47]⟩ ++ cb ++ ⟨#[124]⟩) pb).run Tryz.prog W = .ok (.string (⟨#[102, 105, 108, 101, 58, 47, 47, 47]⟩ ++ cb ++ ⟨#[124]⟩ ++ pb)) W := fun W => run_string_add_sum W _ _ (by (try simp only [ByteArray.size_append]); omega)
        have g3 : ∀ W : World, (Op.stringOp .add (⟨#[102, 105, 108, 101, 58, 47, 47, 47]⟩ ++ cb ++ ⟨#[124]⟩ ++ pb) tb).run Tryz.prog W = .ok (.string (⟨#[102, 105, 108, 101, 58, 47, 47, 47]⟩ ++ cb ++ ⟨#[124]⟩ ++ pb ++ tb)) W := fun W => run_string_add_sum W _ _ (by (try simp only [ByteArray.size_append]); omega)
        have g4 : ∀ W : World, (Op.stringOp .add (⟨#[102, 105, 108, 101, 58, 47, 47, 47]⟩ ++ cb ++ ⟨#[124]⟩ ++ pb ++ tb) ⟨#[47, 101, 110, 100]⟩).run Tryz.prog W = .ok (.string (⟨#[102, 105, 108, 101, 58, 47, 47, 47]⟩ ++ cb ++ ⟨#[124]⟩ ++ pb ++ tb ++ ⟨#[47, 101, 110, 100]⟩)) W := fun W => run_string_add_sum W _ _ (by (try simp only [ByteArray.size_append]); omega)
        have g5 : ∀ W : World, (Op.stringOp .add (⟨#[102, 105, 108, 101, 58, 47, 47, 47]⟩ ++ cb) ⟨#[58]⟩).run Tryz.prog W = .ok (.string (⟨#[102, 105, 108, 101, 58, 47, 47, 47]⟩ ++ cb ++ ⟨#[58]⟩)) W := fun W => run_string_add_sum W _ _ (by (try simp only [ByteArray.size_append]); omega)
        have g6 : ∀ W : World, (Op.stringOp .add (⟨#[102, 105, 108, 101, 58, 47, 47, 47]⟩ ++ cb ++ ⟨#[58]⟩) bb).run Tryz.prog W = .ok (.string (⟨#[102, 105, 108, 101, 58, 47, 47, 47]⟩ ++ cb ++ ⟨#[58]⟩ ++ bb)) W := fun W => run_string_add_sum W _ _ (by (try simp only [ByteArray.size_append]); omega)
        have g7 : ∀ W : World, (Op.stringOp .add (⟨#[102, 105, 108, 101, 58, 47, 47, 47]⟩ ++ cb ++ ⟨#[58]⟩ ++ bb) ⟨#[47, 101, 110, 100]⟩).run Tryz.prog W = .ok (.string (⟨#[102, 105, 108, 101, 58, 47, 47, 47]⟩ ++ cb ++ ⟨#[58]⟩ ++ bb ++ ⟨#[47, 101, 110, 100]⟩)) W := fun W => run_string_add_sum W _ _ (by (try simp only [ByteArray.size_append]); omega)
        go_wp2_with fail
        refine (HPN.out wr (by omega)).mono ?_
        rintro e W0 ⟨rfl, hw0⟩
        have hw0 := hw0.symm
        subst hw0
        go_wp2_with fail
        refine (HT1.out wr (Below.refl _ _)).mono ?_
        rintro e v1 ⟨rfl, b1⟩
        clear g0 g1 g2 g3 g4 g5 g6 g7
        have g0 : ∀ W : World, (Op.stringOp .add (⟨#[102, 105, 108, 101, 58]⟩) cb).run Tryz.prog W = .ok (.string (⟨#[102, 105, 108, 101, 58]⟩ ++ cb)) W := fun W => run_string_add_sum W _ _ (by (try simp only [ByteArray.size_append]); omega)
        have g1 : ∀ W : World, (Op.stringOp .add (⟨#[102, 105, 108, 101, 58]⟩ ++ cb) ⟨#[58]⟩).run Tryz.prog W = .ok (.string (⟨#[102, 105, 108, 101, 58]⟩ ++ cb ++ ⟨#[58]⟩)) W := fun W => run_string_add_sum W _ _ (by (try simp only [ByteArray.size_append]); omega)
        have g2 : ∀ W : World, (Op.stringOp .add (⟨#[102, 105, 108, 101, 58]⟩ ++ cb ++ ⟨#[58]⟩) pb).run Tryz.prog W = .ok (.string (⟨#[102, 105, 108, 101, 58]⟩ ++ cb ++ ⟨#[58]⟩ ++ pb)) W := fun W => run_string_add_sum W _ _ (by (try simp only [ByteArray.size_append]); omega)
        have g3 : ∀ W : World, (Op.stringOp .add (⟨#[102, 105, 108, 101, 58]⟩ ++ cb ++ ⟨#[58]⟩ ++ pb) ⟨#[47, 101, 110, 100]⟩).run Tryz.prog W = .ok (.string (⟨#[102, 105, 108, 101, 58]⟩ ++ cb ++ ⟨#[58]⟩ ++ pb ++ ⟨#[47, 101, 110, 100]⟩)) W := fun W => run_string_add_sum W _ _ (by (try simp only [ByteArray.size_append]); omega)
        have g4 : ∀ W : World, (Op.stringOp .add (⟨#[102, 105, 108, 101, 58, 47, 47, 47]⟩) cb).run Tryz.prog W = .ok (.string (⟨#[102, 105, 108, 101, 58, 47, 47, 47]⟩ ++ cb)) W := fun W => run_string_add_sum W _ _ (by (try simp only [ByteArray.size_append]); omega)
        have g5 : ∀ W : World, (Op.stringOp .add (⟨#[102, 105, 108, 101, 58, 47, 47, 47]⟩ ++ cb) ⟨#[58]⟩).run Tryz.prog W = .ok (.string (⟨#[102, 105, 108, 101, 58, 47, 47, 47]⟩ ++ cb ++ ⟨#[58]⟩)) W := fun W => run_string_add_sum W _ _ (by (try simp only [ByteArray.size_append]); omega)
        have g6 : ∀ W : World, (Op.stringOp .add (⟨#[102, 105, 108, 101, 58, 47, 47, 47]⟩ ++ cb ++ ⟨#[58]⟩) pb).run Tryz.prog W = .ok (.string (⟨#[102, 105, 108, 101, 58, 47, 47, 47]⟩ ++ cb ++ ⟨#[58]⟩ ++ pb)) W := fun W => run_string_add_sum W _ _ (by (try simp only [ByteArray.size_append]); omega)
        have g7 : ∀ W : World, (Op.stringOp .add (⟨#[102, 105, 108, 101, 58, 47, 47, 47]⟩ ++ cb ++ ⟨#[58]⟩ ++ pb) ⟨#[47, 101, 110, 100]⟩).run Tryz.prog W = .ok (.string (⟨#[102, 105, 108, 101, 58, 47, 47, 47]⟩ ++ cb ++ ⟨#[58]⟩ ++ pb ++ ⟨#[47, 101, 110, 100]⟩)) W := fun W => run_string_add_sum W _ _ (by (try simp only [ByteArray.size_append]); omega)
        go_wp2_with fail
        refine (HT2.out _ b1).mono ?_
        rintro e v2 ⟨rfl, b2⟩
        clear g0 g1 g2 g3 g4 g5 g6 g7
        have g0 : ∀ W : World, (Op.stringOp .add (⟨#[102, 105, 108, 101, 58, 47, 47, 76, 79, 67, 65, 76, 72, 79, 83, 84]⟩) pb).run Tryz.prog W = .ok (.string (⟨#[102, 105, 108, 101, 58, 47, 47, 76, 79, 67, 65, 76, 72, 79, 83, 84]⟩ ++ pb)) W := fun W => run_string_add_sum W _ _ (by (try simp only [ByteArray.size_append]); omega)
        have g1 : ∀ W : World, (Op.stringOp .add (⟨#[102, 105, 108, 101, 58, 47, 47, 76, 79, 67, 65, 76, 72, 79, 83, 84]⟩ ++ pb) ⟨#[47, 101, 110, 100]⟩).run Tryz.prog W = .ok (.string (⟨#[102, 105, 108, 101, 58, 47, 47, 76, 79, 67, 65, 76, 72, 79, 83, 84]⟩ ++ pb ++ ⟨#[47, 101, 110, 100]⟩)) W := fun W => run_string_add_sum W _ _ (by (try simp only [ByteArray.size_append]); omega)
        have g2 : ∀ W : World, (Op.stringOp .add (⟨#[102, 105, 108, 101, 58, 47, 47]⟩) pb).run Tryz.prog W = .ok (.string (⟨#[102, 105, 108, 101, 58, 47, 47]⟩ ++ pb)) W := fun W => run_string_add_sum W _ _ (by (try simp only [ByteArray.size_append]); omega)
        have g3 : ∀ W : World, (Op.stringOp .add (⟨#[102, 105, 108, 101, 58, 47, 47]⟩ ++ pb) ⟨#[47, 101, 110, 100]⟩).run Tryz.prog W = .ok (.string (⟨#[102, 105, 108, 101, 58, 47, 47]⟩ ++ pb ++ ⟨#[47, 101, 110, 100]⟩)) W := fun W => run_string_add_sum W _ _ (by (try simp only [ByteArray.size_append]); omega)
        go_wp2_with fail
        refine (HT3.out _ b2).mono ?_
        rintro e v3 ⟨rfl, b3⟩
        clear g0 g1 g2 g3
        have g0 : ∀ W : World, (Op.stringOp .add (⟨#[102, 105, 108, 101, 58, 47, 47, 47]⟩) cb).run Tryz.prog W = .ok (.string (⟨#[102, 105, 108, 101, 58, 47, 47, 47]⟩ ++ cb)) W := fun W => run_string_add_sum W _ _ (by (try simp only [ByteArray.size_append]); omega)
        have g1 : ∀ W : World, (Op.stringOp .add (⟨#[102, 105, 108, 101, 58, 47, 47, 47]⟩ ++ cb) ⟨#[58]⟩).run Tryz.prog W = .ok (.string (⟨#[102, 105, 108, 101, 58, 47, 47, 47]⟩ ++ cb ++ ⟨#[58]⟩)) W := fun W => run_string_add_sum W _ _ (by (try simp only [ByteArray.size_append]); omega)
        have g2 : ∀ W : World, (Op.stringOp .add (⟨#[102, 105, 108, 101, 58, 47, 47, 47]⟩ ++ cb ++ ⟨#[58]⟩) pb).run Tryz.prog W = .ok (.string (⟨#[102, 105, 108, 101, 58, 47, 47, 47]⟩ ++ cb ++ ⟨#[58]⟩ ++ pb)) W := fun W => run_string_add_sum W _ _ (by (try simp only [ByteArray.size_append]); omega)
        have g3 : ∀ W : World, (Op.stringOp .add (⟨#[102, 105, 108, 101, 58, 47, 47, 47]⟩ ++ cb ++ ⟨#[58]⟩ ++ pb) ⟨#[47, 101, 110, 100]⟩).run Tryz.prog W = .ok (.string (⟨#[102, 105, 108, 101, 58, 47, 47, 47]⟩ ++ cb ++ ⟨#[58]⟩ ++ pb ++ ⟨#[47, 101, 110, 100]⟩)) W := fun W => run_string_add_sum W _ _ (by (try simp only [ByteArray.size_append]); omega)
        have g4 : ∀ W : World, (Op.stringOp .add (⟨#[102, 105, 108, 101, 58, 47, 47, 47]⟩ ++ cb) ⟨#[58, 47, 120]⟩).run Tryz.prog W = .ok (.string (⟨#[102, 105, 108, 101, 58, 47, 47, 47]⟩ ++ cb ++ ⟨#[58, 47, 120]⟩)) W := fun W => run_string_add_sum W _ _ (by (try simp only [ByteArray.size_append]); omega)
        go_wp2_with fail
        refine (HT4.out _ b3).mono ?_
        rintro e v4 ⟨rfl, b4⟩
        clear g0 g1 g2 g3 g4
        have g0 : ∀ W : World, (Op.stringOp .add (cb) ⟨#[124, 47, 121]⟩).run Tryz.prog W = .ok (.string (cb ++ ⟨#[124, 47, 121]⟩)) W := fun W => run_string_add_sum W _ _ (by (try simp only [ByteArray.size_append]); omega)
        have g1 : ∀ W : World, (Op.stringOp .add (⟨#[102, 105, 108, 101, 58, 47, 47, 104, 47, 122]⟩) pb).run Tryz.prog W = .ok (.string (⟨#[102, 105, 108, 101, 58, 47, 47, 104, 47, 122]⟩ ++ pb)) W := fun W => run_string_add_sum W _ _ (by (try simp only [ByteArray.size_append]); omega)
        have g2 : ∀ W : World, (Op.stringOp .add (⟨#[102, 105, 108, 101, 58, 47, 47, 104, 47]⟩) cb).run Tryz.prog W = .ok (.string (⟨#[102, 105, 108, 101, 58, 47, 47, 104, 47]⟩ ++ cb)) W := fun W => run_string_add_sum W _ _ (by (try simp only [ByteArray.size_append]); omega)
        have g3 : ∀ W : World, (Op.stringOp .add (⟨#[102, 105, 108, 101, 58, 47, 47, 104, 47]⟩ ++ cb) ⟨#[58, 47, 121]⟩).run Tryz.prog W = .ok (.string (⟨#[102, 105, 108, 101, 58, 47, 47, 104, 47]⟩ ++ cb ++ ⟨#[58, 47, 121]⟩)) W := fun W => run_string_add_sum W _ _ (by (try simp only [ByteArray.size_append]); omega)
        go_wp2_with fail
        refine (HT5.out _ b4).mono ?_
        rintro e v5 ⟨rfl, b5⟩
        clear g0 g1 g2 g3
        go_wp2_with fail
        go_ret
        exact ⟨rfl, HB2.out.trans (b5.mono HB2.out.size)⟩
end Go.Proofs
