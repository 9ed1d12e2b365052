/-
  What escaped and Escape of package moorref answer.
-/
import Derived.Test.YtkcnageeamappaaGreatDoorJQ2
import Derived.Test.YtkcnageeamappaaGreatDoorJASegs2
import Derived.Lib.Case
import Derived.Test.YtkcnageeamappaaGreatDoorJEnv
namespace Go.Proofs
open Go.RowKit Go.Moor

theorem cell3 (w : World) (a b c : Value) (t : TypeId) (i : Nat) : (w.alloc (.cells #[a, b, c] t)).cell? ⟨w.heap.size, i, none⟩ = (#[a, b, c] : Array Value)[i]? := World.cell?_alloc_new w #[a, b, c] t i
set_option maxHeartbeats 1000000 in
theorem Tryz.rescaped_any (c : UInt8) (w : World) :
    Calls Tryz.prog 64 #[.int .u8 c.toNat] w fun e w' => e = .returned (.string ⟨#[37, hexCap (c.toNat / 16), hexCap (c.toNat % 16)]⟩) ∧ Below w.heap.size w w' := by
  have hc := c.toNat_lt
  have HC1 : Hid (Calls Tryz.prog 111 #[.int .u8 ((c.toNat / 16 : Nat) : Int)] w fun e w' => e = .returned (.int .u8 (hexCap (c.toNat / 16)).toNat) ∧ w' = w) := Tryz.rcapital_any _ (by omega) w
  have HC2 : Hid (Calls Tryz.prog 111 #[.int .u8 ((c.toNat % 16 : Nat) : Int)] w fun e w' => e = .returned (.int .u8 (hexCap (c.toNat % 16)).toNat) ∧ w' = w) := Tryz.rcapital_any _ (by omega) w
  generalize hexCap (c.toNat / 16) = x1 at *
  generalize hexCap (c.toNat % 16) = x2 at *
  have hcv : (convert 47 9 (.slice (some ⟨w.heap.size, 0, none⟩) 3 3)).run Tryz.prog (w.alloc (.cells #[.int .u8 37, .int .u8 x1.toNat, .int .u8 x2.toNat] 5)) = .ok (.string ⟨#[37, x1, x2]⟩) (w.alloc (.cells #[.int .u8 37, .int .u8 x1.toNat, .int .u8 x2.toNat] 5)) :=
    run_convert_bytes_back _ 47 9 5 ⟨w.heap.size, 0, none⟩ 3 [37, x1, x2] Tryz.underlying47 Tryz.underlying5 Tryz.underlying9 (fun i hi => by
      match i, hi with
      | 0, _ => exact cell3 w _ _ _ _ 0
      | 1, _ => exact cell3 w _ _ _ _ 1
      | 2, _ => exact cell3 w _ _ _ _ 2)
  obtain ⟨n, hn⟩ : ∃ n : Nat, n = c.toNat := ⟨_, rfl⟩
  rw [← hn] at HC1 HC2 hc ⊢
  have e1 : ((n / 16 : Nat) : Int) = (n : Int) / 16 := by omega
  have e2 : ((n % 16 : Nat) : Int) = (n : Int) % 16 := by omega
  rw [e1] at HC1
  rw [e2] at HC2
  clear e1 e2
  clear hn
  go_enter Tryz.func64, Tryz.ntmps64
  go_wp2_with fail
  refine HC1.out.mono ?_
  rintro e W0 ⟨rfl, hw0⟩
  have hw0 := hw0.symm
  subst hw0
  go_wp2_with fail
  refine HC2.out.mono ?_
  rintro e W0 ⟨rfl, hw0⟩
  have hw0 := hw0.symm
  subst hw0
  go_wp2_with fail
  go_ret
  exact ⟨rfl, (Below.refl _ _).alloc (Nat.le_refl _) _⟩

theorem take_next (l : List UInt8) (k : Nat) (h : k < l.length) : l.take (k + 1) = l.take k ++ [l[k]] := by
  rw [List.take_add_one, List.getElem?_eq_getElem h]
  rfl
theorem esc_next (s : Int) (l : List UInt8) (k : Nat) (h : k < l.length) : esc s (l.take (k + 1)) = esc s (l.take k) ++ escB s l[k] := by
  rw [take_next l k h]
  unfold esc
  rw [List.flatMap_append]
  simp
theorem esc_le3 (s : Int) (l : List UInt8) : (esc s l).length ≤ 3 * l.length := by
  induction l with
  | nil => simp [esc]
  | cons c l ih =>
    have h1 : (escB s c).length ≤ 3 := by unfold escB; split <;> simp
    have h2 : esc s (c :: l) = escB s c ++ esc s l := by simp [esc]
    rw [h2, List.length_append, List.length_cons]
    omega
theorem extract_one (s : ByteArray) (k : Nat) (h : k < s.size) : s.extract k (k + 1) = ⟨#[s[k]]⟩ := by
  apply ByteArray.ext
  apply Array.ext'
  have h2 : k < s.data.toList.length := by rw [Array.length_toList]; exact h
  rw [ByteArray.data_extract, Array.toList_extract, List.extract_eq_take_drop, show k + 1 - k = 1 by omega, List.drop_eq_getElem_cons h2]
  rfl

set_option maxHeartbeats 4000000 in
theorem Tryz.rEscape_any (s : ByteArray) (set : Int) (w : World) (hs : s.size ≤ 35184372088832) :
    Calls Tryz.prog 40 #[.string s, .int .i64 set] w fun e w' => e = .returned (.string ⟨(esc set s.data.toList).toArray⟩) ∧ Below w.heap.size w w' := by
  obtain ⟨l, hl⟩ : ∃ l, l = s.data.toList := ⟨_, rfl⟩
  have hlen : l.length = s.size := by rw [hl, Array.length_toList]; rfl
  have HG : Hid (∀ (k : Nat) (h : k < s.size) (h2 : k < l.length), l[k] = s[k]) := by
    intro k h h2
    subst hl
    simp
    rfl
  rw [← hl]
  have HME : Hid (∀ (c : UInt8) w1, 0 ≤ set → set ≤ 6 → Calls Tryz.prog 63 #[.int .u8 c.toNat, .int .i64 set] w1 fun e w' => e = .returned (.bool (holdsB set c.toNat)) ∧ w' = w1) := by
    intro c w1 h0 h6
    obtain ⟨n, rfl⟩ : ∃ n : Nat, set = n := ⟨set.toNat, by omega⟩
    exact Tryz.rmember_any c n (by omega) w1
  have HNO : Hid (¬ (0 ≤ set ∧ set ≤ 6) → ∀ c : UInt8, holdsB set c.toNat = false) := by
    intro h c
    unfold holdsB
    rw [Bool.and_eq_false_iff]
    left
    rw [Bool.and_eq_false_iff]
    by_cases h0 : 0 ≤ set
    · right; rw [decide_eq_false_iff_not]; omega
    · left; rw [decide_eq_false_iff_not]; omega
  have HE : Hid (∀ k, (esc set (l.take k)).length ≤ 3 * s.size) := by
    intro k
    have h1 := esc_le3 set (l.take k)
    have h2 : (l.take k).length ≤ l.length := by rw [List.length_take]; omega
    omega
  clear hl
  go_enter Tryz.func40, Tryz.ntmps40
  go_wp2_with fail
  go_loopw [5, 6] (fun o i wr => ∃ k : Nat, k ≤ s.size ∧ i = .int .i64 k ∧ o = .string ⟨(esc set (l.take k)).toArray⟩ ∧ Below w.heap.size w wr) (fun _ i _ => s.size - (intOf i).toNat)
  case atStart => exact ⟨0, Nat.zero_le _, rfl, rfl, Below.refl _ _⟩
  case round =>
    obtain ⟨k, hk, rfl, rfl, hb⟩ := hrel
    have HB : Hid (Below w.heap.size w wr) := hb
    clear hb
    by_cases hlt : k < s.size
    · have h2 : k < l.length := by omega
      have hg := HG.out k hlt h2
      have HNX : Hid (esc set (l.take (k + 1)) = esc set (l.take k) ++ escB set s[k]) := by show _ = _; rw [esc_next set l k h2, hg]
      have hel := HE.out k
      have hsz : (⟨(esc set (l.take k)).toArray⟩ : ByteArray).size = (esc set (l.take k)).length := size_mk _
      have hmem : 0 ≤ set → set ≤ 6 → Calls Tryz.prog 63 #[.int .u8 s[k].toNat, .int .i64 set] wr fun e w' => e = .returned (.bool (holdsB set s[k].toNat)) ∧ w' = wr := HME.out s[k] wr
      have HMEM : Hid _ := hmem
      have HES : Hid (Calls Tryz.prog 64 #[.int .u8 s[k].toNat] wr fun e w' => e = .returned (.string ⟨#[37, hexCap (s[k].toNat / 16), hexCap (s[k].toNat % 16)]⟩) ∧ Below wr.heap.size wr w') := Tryz.rescaped_any s[k] wr
      have HX : Hid (s.extract k (k + 1) = ⟨#[s[k]]⟩) := extract_one s k hlt
      have hnof := HNO.out
      have HNOF : Hid (¬ (0 ≤ set ∧ set ≤ 6) → holdsB set s[k].toNat = false) := fun h => HNO.out h s[k]
      have HA1 : Hid (holdsB set s[k].toNat = true → (⟨(esc set (l.take k)).toArray⟩ : ByteArray) ++ ⟨#[37, hexCap (s[k].toNat / 16), hexCap (s[k].toNat % 16)]⟩ = ⟨(esc set (l.take (k + 1))).toArray⟩) := by
        intro h
        rw [HNX.out]
        unfold escB
        rw [if_pos h]
        exact app_mk _ [37, hexCap (s[k].toNat / 16), hexCap (s[k].toNat % 16)]
      have HA2 : Hid (holdsB set s[k].toNat = false → (⟨(esc set (l.take k)).toArray⟩ : ByteArray) ++ s.extract k (k + 1) = ⟨(esc set (l.take (k + 1))).toArray⟩) := by
        intro h
        rw [HNX.out, HX.out]
        unfold escB
        rw [if_neg (by simp [h])]
        exact app_mk _ [s[k]]
      have zx : (s.extract k (k + 1)).size = 1 := by rw [HX.out]; rfl
      have ze : (⟨#[37, hexCap (s[k].toNat / 16), hexCap (s[k].toNat % 16)]⟩ : ByteArray).size = 3 := rfl
      generalize (⟨#[37, hexCap (s[k].toNat / 16), hexCap (s[k].toNat % 16)]⟩ : ByteArray) = ex at *
      generalize (⟨(esc set (l.take k)).toArray⟩ : ByteArray) = acc at *
      have g1 : ∀ W : World, (Op.stringOp .add acc ex).run Tryz.prog W = .ok (.string (acc ++ ex)) W := fun W => run_string_add_sum W _ _ (by omega)
      have g2 : ∀ W : World, (Op.stringOp .add acc (s.extract k (k + 1))).run Tryz.prog W = .ok (.string (acc ++ s.extract k (k + 1))) W := fun W => run_string_add_sum W _ _ (by omega)
      clear hg hel hsz hmem hnof zx ze HG HNX HE HX
      have hk0 : (0 : Int) ≤ (k : Int) := by omega
      have hk1 : (k : Int) < (s.size : Int) := by omega
      by_cases h0 : 0 ≤ set
      · by_cases h6 : set ≤ 6
        · have HM2 : Hid _ := HMEM.out h0 h6
          cases hh : holdsB set s[k].toNat with
          | true =>
            have HA : Hid _ := HA1.out hh
            rw [hh] at HM2
            clear HA1 HA2 HMEM HNOF hh
            go_wp2_with fail
            refine Calls.mono HM2.out ?_
            rintro e W0 ⟨rfl, hw0⟩
            have hw0 := hw0.symm
            subst hw0
            go_wp2_with fail
            refine HES.out.mono ?_
            rintro e w2 ⟨rfl, b2⟩
            have HB2 : Hid (Below w.heap.size w w2) := HB.out.trans (b2.mono HB.out.size)
            clear b2
            go_wp2
            go_roundw
            case rel => exact ⟨k + 1, by omega, by go_num, congrArg Value.string HA.out, HB2.out⟩
            case measure => (simp [intOf]; try omega)
          | false =>
            have HA : Hid _ := HA2.out hh
            rw [hh] at HM2
            clear HA1 HA2 HMEM HNOF hh
            go_wp2_with fail
            refine Calls.mono HM2.out ?_
            rintro e W0 ⟨rfl, hw0⟩
            have hw0 := hw0.symm
            subst hw0
            go_wp2
            go_roundw
            case rel => exact ⟨k + 1, by omega, by go_num, congrArg Value.string HA.out, HB.out⟩
            case measure => (simp [intOf]; try omega)
        · have HA : Hid _ := HA2.out (HNOF.out (by omega))
          clear HA1 HA2 HMEM HNOF
          go_wp2
          go_roundw
          case rel => exact ⟨k + 1, by omega, by go_num, congrArg Value.string HA.out, HB.out⟩
          case measure => (simp [intOf]; try omega)
      · have HA : Hid _ := HA2.out (HNOF.out (by omega))
        clear HA1 HA2 HMEM HNOF
        go_wp2
        go_roundw
        case rel => exact ⟨k + 1, by omega, by go_num, congrArg Value.string HA.out, HB.out⟩
        case measure => (simp [intOf]; try omega)
    · have HQ : Hid (l.take k = l) := List.take_of_length_le (by omega)
      rw [HQ.out]
      go_wp2
      go_ret
      exact ⟨rfl, HB.out⟩
end Go.Proofs
/-
  What Unescape of package moorref answers.
-/
namespace Go.Proofs
open Go.RowKit Go.Moor

theorem refHex_ok (c : UInt8) (h : hexVal c.toNat < 16) : refHex c = hexVal c.toNat ∧ 0 ≤ refHex c ∧ refHex c ≤ 15 := by
  have := hexVal_range c.toNat
  unfold refHex
  rw [if_pos h]
  omega
theorem refHex_no (c : UInt8) (h : ¬ hexVal c.toNat < 16) : refHex c = -1 := by
  unfold refHex
  rw [if_neg h]
theorem pairB_val (a b : UInt8) (ha : hexVal a.toNat < 16) (hb : hexVal b.toNat < 16) : ((pairB a b).toNat : Int) = 16 * refHex a + refHex b := by
  have h1 := refHex_ok a ha
  have h2 := refHex_ok b hb
  have ra := hexVal_range a.toNat
  have rb := hexVal_range b.toNat
  rw [h1.1, h2.1]
  unfold pairB
  have e : (16 * (hexVal a.toNat).toNat + (hexVal b.toNat).toNat).toUInt8.toNat = (16 * (hexVal a.toNat).toNat + (hexVal b.toNat).toNat) % 256 := rfl
  rw [e]
  omega
theorem drop_cons (l : List UInt8) (k : Nat) (h : k < l.length) : l.drop k = l[k] :: l.drop (k + 1) := List.drop_eq_getElem_cons h
theorem unesc_three' (c a b : UInt8) (r : List UInt8) : unesc (c :: a :: b :: r) = if c = 37 then (if twoHex (a :: b :: r) then pairB a b :: unesc r else 37 :: unesc (a :: b :: r)) else c :: unesc (a :: b :: r) := by
  rw [unesc]
theorem unesc_hit (c a b : UInt8) (r : List UInt8) (hc : c = 37) (ha : hexVal a.toNat < 16) (hb : hexVal b.toNat < 16) : unesc (c :: a :: b :: r) = pairB a b :: unesc r := by
  have : twoHex (a :: b :: r) = true := by simp [twoHex, ha, hb]
  rw [unesc_three', if_pos hc, if_pos this]
theorem unesc_miss (c a b : UInt8) (r : List UInt8) (h : ¬ (hexVal a.toNat < 16 ∧ hexVal b.toNat < 16)) : unesc (c :: a :: b :: r) = c :: unesc (a :: b :: r) := by
  have : ¬ twoHex (a :: b :: r) = true := by
    intro h2
    simp only [twoHex, Bool.and_eq_true, decide_eq_true_eq] at h2
    exact h h2
  rw [unesc_three']
  split
  · rename_i hc
    first | rw [if_neg this, hc] | rw [hc]
  · rfl
theorem unesc_few (c : UInt8) (l : List UInt8) (h : c ≠ 37 ∨ l.length < 2) : unesc (c :: l) = c :: unesc l := by
  rcases h with h | h
  · exact unesc_ne c l h
  · match l, h with
    | [], _ => rfl
    | [a], _ => rfl

theorem cell1 (w : World) (a : Value) (t : TypeId) (i : Nat) : (w.alloc (.cells #[a] t)).cell? ⟨w.heap.size, i, none⟩ = (#[a] : Array Value)[i]? := World.cell?_alloc_new w #[a] t i
theorem Tryz.one_text (x : UInt8) (n : Int) (hx : (x.toNat : Int) = n) (w : World) : (convert 47 9 (.slice (some ⟨w.heap.size, 0, none⟩) 1 1)).run Tryz.prog (w.alloc (.cells #[.int .u8 n] 5)) = .ok (.string ⟨#[x]⟩) (w.alloc (.cells #[.int .u8 n] 5)) :=
  run_convert_bytes_back _ 47 9 5 ⟨w.heap.size, 0, none⟩ 1 [x] Tryz.underlying47 Tryz.underlying5 Tryz.underlying9 (fun i hi => by
    match i, hi with
    | 0, _ =>
      refine (cell1 w _ _ 0).trans ?_
      show some (Value.int .u8 n) = some (Value.int .u8 (x.toNat : Int))
      rw [hx])
set_option maxHeartbeats 4000000 in
set_option maxRecDepth 4000 in
theorem Tryz.rUnescape_any (s : ByteArray) (w : World) (hs : s.size ≤ 35184372088832) :
    Calls Tryz.prog 42 #[.string s] w fun e w' => e = .returned (.string ⟨(unesc s.data.toList).toArray⟩) ∧ Below w.heap.size w w' := by
  obtain ⟨l, hl⟩ : ∃ l, l = s.data.toList := ⟨_, rfl⟩
  have hlen : l.length = s.size := by rw [hl, Array.length_toList]; rfl
  have HG : Hid (∀ (k : Nat) (h : k < s.size), l.drop k = s[k] :: l.drop (k + 1)) := by
    intro k h
    subst hl
    rw [drop_cons _ k (by rw [Array.length_toList]; exact h)]
    rfl
  have HLN : Hid (l.length = s.size) := hlen
  rw [← hl]
  have HHX : Hid (∀ (c : UInt8) w1, Calls Tryz.prog 66 #[.int .u8 c.toNat] w1 fun e w' => e = .returned (.int .i64 (refHex c)) ∧ w' = w1) := fun c w1 => Tryz.rhex_any c w1
  clear hl hlen
  go_enter Tryz.func42, Tryz.ntmps42
  go_wp2_with fail
  go_loopw [3, 4] (fun o i wr => ∃ (k : Nat) (a : List UInt8), k ≤ s.size ∧ i = .int .i64 k ∧ o = .string ⟨a.toArray⟩ ∧ a.length ≤ k ∧ a ++ unesc (l.drop k) = unesc l ∧ Below w.heap.size w wr) (fun _ i _ => s.size - (intOf i).toNat)
  case atStart => exact ⟨0, [], Nat.zero_le _, rfl, rfl, by simp, rfl, Below.refl _ _⟩
  case round =>
    obtain ⟨k, a, hk, rfl, rfl, hal, hrest, hb⟩ := hrel
    have HB : Hid (Below w.heap.size w wr) := hb
    have HRE : Hid (a ++ unesc (l.drop k) = unesc l) := hrest
    clear hb hrest
    by_cases hlt : k < s.size
    · have HD : Hid (l.drop k = s[k] :: l.drop (k + 1)) := HG.out k hlt
      have HX : Hid (s.extract k (k + 1) = ⟨#[s[k]]⟩) := extract_one s k hlt
      have HA2 : Hid ((⟨a.toArray⟩ : ByteArray) ++ s.extract k (k + 1) = ⟨(a ++ [s[k]]).toArray⟩) := by show _ = _; rw [HX.out]; exact app_mk a [s[k]]
      have HONE : Hid (unesc (s[k] :: l.drop (k + 1)) = s[k] :: unesc (l.drop (k + 1)) → (a ++ [s[k]]) ++ unesc (l.drop (k + 1)) = unesc l) := by
        intro h
        rw [← HRE.out, HD.out, h]
        simp
      have hsz : (⟨a.toArray⟩ : ByteArray).size = a.length := size_mk _
      have zx : (s.extract k (k + 1)).size = 1 := by rw [HX.out]; rfl
      have g2 : ∀ W : World, (Op.stringOp .add ⟨a.toArray⟩ (s.extract k (k + 1))).run Tryz.prog W = .ok (.string (⟨a.toArray⟩ ++ s.extract k (k + 1))) W := fun W => run_string_add_sum W _ _ (by omega)
      have hk0 : (0 : Int) ≤ (k : Int) := by omega
      have hk1 : (k : Int) < (s.size : Int) := by omega
      by_cases hc : s[k] = 37
      · have hcb : ((s[k].toNat : Int) == 37) = true := by rw [hc]; rfl
        by_cases h2 : k + 2 < s.size
        · have h2i : (k : Int) + 2 < (s.size : Int) := by omega
          have HD1 : Hid (l.drop (k + 1) = s[k + 1] :: l.drop (k + 2)) := HG.out (k + 1) (by omega)
          have HD2 : Hid (l.drop (k + 2) = s[k + 2] :: l.drop (k + 3)) := HG.out (k + 2) h2
          have HH1 : Hid (Calls Tryz.prog 66 #[.int .u8 s[k + 1].toNat] wr fun e w' => e = .returned (.int .i64 (refHex s[k + 1])) ∧ w' = wr) := HHX.out _ wr
          have HH2 : Hid (Calls Tryz.prog 66 #[.int .u8 s[k + 2].toNat] wr fun e w' => e = .returned (.int .i64 (refHex s[k + 2])) ∧ w' = wr) := HHX.out _ wr
          have hw1 : wrap64 ((k : Int) + 1) = (k : Int) + 1 := by unfold wrap64; omega
          have hw2 : wrap64 ((k : Int) + 2) = (k : Int) + 2 := by unfold wrap64; omega
          by_cases hx : hexVal s[k + 1].toNat < 16 ∧ hexVal s[k + 2].toNat < 16
          · obtain ⟨hx1, hx2⟩ := hx
            have hr1 := (refHex_ok _ hx1).2
            have hr2 := (refHex_ok _ hx2).2
            have hpv := pairB_val s[k + 1] s[k + 2] hx1 hx2
            have HFIN : Hid ((a ++ [pairB s[k + 1] s[k + 2]]) ++ unesc (l.drop (k + 3)) = unesc l) := by
              show _ = _
              rw [← HRE.out, HD.out, HD1.out, HD2.out, unesc_hit _ _ _ _ hc hx1 hx2]
              simp
            have HA1 : Hid ((⟨a.toArray⟩ : ByteArray) ++ ⟨#[pairB s[k + 1] s[k + 2]]⟩ = ⟨(a ++ [pairB s[k + 1] s[k + 2]]).toArray⟩) := app_mk a [pairB s[k + 1] s[k + 2]]
            generalize pairB s[k + 1] s[k + 2] = x at *
            generalize refHex s[k + 1] = r1 at *
            generalize refHex s[k + 2] = r2 at *
            have HCV : Hid _ := Tryz.one_text x (16 * r1 + r2) hpv wr
            have G1 : Hid (∀ W : World, (Op.stringOp .add ⟨a.toArray⟩ ⟨#[x]⟩).run Tryz.prog W = .ok (.string (⟨a.toArray⟩ ++ ⟨#[x]⟩)) W) := fun W => run_string_add_sum W _ _ (by rw [hsz]; show _ + 1 ≤ _; omega)
            have HR1 : Hid (0 ≤ r1 ∧ r1 ≤ 15) := hr1
            have HR2 : Hid (0 ≤ r2 ∧ r2 ≤ 15) := hr2
            clear hr1 hr2
            clear hsz zx hc hx1 hx2 HONE HA2
            clear hpv
            go_wp2_with fail
            refine HH1.out.mono ?_
            rintro e W0 ⟨rfl, hw0⟩
            have hw0 := hw0.symm
            subst hw0
            go_wp2_with fail
            refine HH2.out.mono ?_
            rintro e W0 ⟨rfl, hw0⟩
            have hw0 := hw0.symm
            subst hw0
            obtain ⟨hr1a, hr1b⟩ := HR1.out
            obtain ⟨hr2a, hr2b⟩ := HR2.out
            have hcv := HCV.out
            have g1 := G1.out
            go_wp2
            go_roundw
            case rel => exact ⟨k + 3, a ++ [x], by omega, by go_num, congrArg Value.string HA1.out, by simp; omega, HFIN.out, HB.out.alloc HB.out.size _⟩
            case measure => (simp [intOf]; try omega)
          · have HF : Hid _ := HONE.out (by rw [HD1.out, HD2.out]; exact unesc_miss _ _ _ _ hx)
            have hrr : ¬ 0 ≤ refHex s[k + 1] ∨ (0 ≤ refHex s[k + 1] ∧ ¬ 0 ≤ refHex s[k + 2]) := by
              by_cases hx1 : hexVal s[k + 1].toNat < 16
              · right
                refine ⟨(refHex_ok _ hx1).2.1, ?_⟩
                rw [refHex_no _ (fun h => hx ⟨hx1, h⟩)]
                decide
              · left
                rw [refHex_no _ hx1]
                decide
            generalize refHex s[k + 1] = r1 at *
            generalize refHex s[k + 2] = r2 at *
            clear hsz zx hc hx HONE
            rcases hrr with hr | ⟨hr, hr2⟩
            all_goals
              go_wp2_with fail
              refine HH1.out.mono ?_
              rintro e W0 ⟨rfl, hw0⟩
              have hw0 := hw0.symm
              subst hw0
              go_wp2_with fail
              refine HH2.out.mono ?_
              rintro e W0 ⟨rfl, hw0⟩
              have hw0 := hw0.symm
              subst hw0
              go_wp2
              go_roundw
              case rel => exact ⟨k + 1, a ++ [s[k]], by omega, by go_num, congrArg Value.string HA2.out, by simp; omega, HF.out, HB.out⟩
              case measure => (simp [intOf]; try omega)
        · have h2i : ¬ (k : Int) + 2 < (s.size : Int) := by omega
          have HF : Hid _ := HONE.out (unesc_few _ _ (Or.inr (by have := HLN.out; rw [List.length_drop]; omega)))
          clear hsz zx hc
          go_wp2
          go_roundw
          case rel => exact ⟨k + 1, a ++ [s[k]], by omega, by go_num, congrArg Value.string HA2.out, by simp; omega, HF.out, HB.out⟩
          case measure => (simp [intOf]; try omega)
      · have hcb : ((s[k].toNat : Int) == 37) = false := by
          rw [beq_eq_false_iff_ne]
          intro h
          exact hc (UInt8.toNat_inj.1 (by show s[k].toNat = 37; omega))
        have HF : Hid _ := HONE.out (unesc_few _ _ (Or.inl hc))
        clear hsz zx
        go_wp2
        go_roundw
        case rel => exact ⟨k + 1, a ++ [s[k]], by omega, by go_num, congrArg Value.string HA2.out, by simp; omega, HF.out, HB.out⟩
        case measure => (simp [intOf]; try omega)
    · have HQ : Hid (a = unesc l) := by
        show _ = _
        have h := HRE.out
        rw [List.drop_eq_nil_of_le (by have := HLN.out; omega)] at h
        simpa [unesc] using h
      go_wp2
      go_ret
      rw [← HQ.out]
      exact ⟨rfl, HB.out⟩
end Go.Proofs
/-
  What small and split of package moorref answer.
-/
namespace Go.Proofs
open Go.RowKit Go.Moor

theorem lowB_fin : ∀ c : Fin 256, ((Lib.lowerB c.val.toUInt8).toNat : Int) = if 65 ≤ c.val ∧ c.val ≤ 90 then (c.val : Int) + 32 else (c.val : Int) := by decide +kernel
theorem lowB_val (c : UInt8) : ((Lib.lowerB c).toNat : Int) = if 65 ≤ c.toNat ∧ c.toNat ≤ 90 then (c.toNat : Int) + 32 else (c.toNat : Int) := by
  have h := lowB_fin ⟨c.toNat, c.toNat_lt⟩
  simp only at h
  have e : c.toNat.toUInt8 = c := by simp
  rw [e] at h
  exact h

set_option maxHeartbeats 4000000 in
set_option maxRecDepth 4000 in
theorem Tryz.rsmall_any (s : ByteArray) (w : World) (hs : s.size ≤ 35184372088832) :
    Calls Tryz.prog 118 #[.string s] w fun e w' => e = .returned (.string ⟨(Lib.toLowerA s.data.toList).toArray⟩) ∧ Below w.heap.size w w' := by
  obtain ⟨l, hl⟩ : ∃ l, l = s.data.toList := ⟨_, rfl⟩
  have hlen : l.length = s.size := by rw [hl, Array.length_toList]; rfl
  have HG : Hid (∀ (k : Nat) (h : k < s.size) (h2 : k < l.length), l[k] = s[k]) := by
    intro k h h2
    subst hl
    simp
    rfl
  rw [← hl]
  clear hl
  go_enter Tryz.func118, Tryz.ntmps118
  go_wp2_with fail
  go_loopw [3, 4] (fun o i wr => ∃ k : Nat, k ≤ s.size ∧ i = .int .i64 k ∧ o = .string ⟨(Lib.toLowerA (l.take k)).toArray⟩ ∧ Below w.heap.size w wr) (fun _ i _ => s.size - (intOf i).toNat)
  case atStart => exact ⟨0, Nat.zero_le _, rfl, rfl, Below.refl _ _⟩
  case round =>
    obtain ⟨k, hk, rfl, rfl, hb⟩ := hrel
    have HB : Hid (Below w.heap.size w wr) := hb
    clear hb
    by_cases hlt : k < s.size
    · have h2 : k < l.length := by omega
      have hg := HG.out k hlt h2
      have HA : Hid ((⟨(Lib.toLowerA (l.take k)).toArray⟩ : ByteArray) ++ ⟨#[Lib.lowerB s[k]]⟩ = ⟨(Lib.toLowerA (l.take (k + 1))).toArray⟩) := by
        show _ = _
        rw [take_next l k h2, hg]
        unfold Lib.toLowerA
        rw [List.map_append]
        exact app_mk _ [Lib.lowerB s[k]]
      have hsz : (⟨(Lib.toLowerA (l.take k)).toArray⟩ : ByteArray).size ≤ s.size := by
        rw [size_mk]
        unfold Lib.toLowerA
        rw [List.length_map, List.length_take]
        omega
      have hlv := lowB_val s[k]
      have hcl := s[k].toNat_lt
      generalize (⟨(Lib.toLowerA (l.take k)).toArray⟩ : ByteArray) = acc at *
      have G1 : Hid (∀ W : World, (Op.stringOp .add acc ⟨#[Lib.lowerB s[k]]⟩).run Tryz.prog W = .ok (.string (acc ++ ⟨#[Lib.lowerB s[k]]⟩)) W) := fun W => run_string_add_sum W _ _ (by show _ + 1 ≤ _; omega)
      clear hsz hg HG
      by_cases hc : 65 ≤ s[k].toNat ∧ s[k].toNat ≤ 90
      · rw [if_pos hc] at hlv
        have hc1 : (65 : Int) ≤ (s[k].toNat : Int) := by omega
        have hc2 : (s[k].toNat : Int) ≤ 90 := by omega
        have hcv := Tryz.one_text (Lib.lowerB s[k]) ((s[k].toNat : Int) + 32) hlv wr
        have g1 := G1.out
        generalize Lib.lowerB s[k] = x at *
        clear hlv hc
        go_wp2
        go_roundw
        case rel => exact ⟨k + 1, by omega, by go_num, congrArg Value.string HA.out, HB.out.alloc HB.out.size _⟩
        case measure => (simp [intOf]; try omega)
      · rw [if_neg hc] at hlv
        have hcv := Tryz.one_text (Lib.lowerB s[k]) (s[k].toNat : Int) hlv wr
        have g1 := G1.out
        have hcc : ¬ (65 : Int) ≤ (s[k].toNat : Int) ∨ ((65 : Int) ≤ (s[k].toNat : Int) ∧ ¬ (s[k].toNat : Int) ≤ 90) := by omega
        generalize Lib.lowerB s[k] = x at *
        clear hlv hc
        rcases hcc with hc1 | ⟨hc1, hc2⟩
        all_goals
          go_wp2
          go_roundw
          case rel => exact ⟨k + 1, by omega, by go_num, congrArg Value.string HA.out, HB.out.alloc HB.out.size _⟩
          case measure => (simp [intOf]; try omega)
    · have HQ : Hid (l.take k = l) := List.take_of_length_le (by omega)
      rw [HQ.out]
      go_wp2
      go_ret
      exact ⟨rfl, HB.out⟩

theorem extract_list (s : ByteArray) (i j : Nat) : (s.extract i j) = ⟨((s.data.toList.drop i).take (j - i)).toArray⟩ := by
  apply ByteArray.ext
  apply Array.ext'
  rw [ByteArray.data_extract, Array.toList_extract, List.extract_eq_take_drop]

/-- Where the next mark stands: what is ahead of it is the first piece. -/
theorem split_at (c : UInt8) (l : List UInt8) (f i : Nat) (hf : f ≤ i) (hi : i < l.length) (hn : ∀ (j : Nat) (hj : j < l.length), f ≤ j → j < i → ¬ l[j] = c) (hc : l[i] = c) : splitOn c (l.drop f) = (l.drop f).take (i - f) :: splitOn c (l.drop (i + 1)) := by
  have e : l.drop f = (l.drop f).take (i - f) ++ c :: l.drop (i + 1) := by
    conv => lhs; rw [← List.take_append_drop (i - f) (l.drop f)]
    rw [List.drop_drop, show f + (i - f) = i by omega, List.drop_eq_getElem_cons hi, hc]
  rw [e, splitOn_hit c _ _ (fun x hx => ?_)]
  · rw [← e]
  · rw [List.mem_iff_getElem?] at hx
    obtain ⟨j, hj⟩ := hx
    rw [List.getElem?_take] at hj
    split at hj
    · rename_i hj2
      rw [List.getElem?_drop] at hj
      have hj3 := List.getElem?_eq_some_iff.1 hj
      obtain ⟨h1, h2⟩ := hj3
      intro hx2
      exact hn (f + j) h1 (by omega) (by omega) (h2.trans hx2)
    · cases hj
theorem split_none (c : UInt8) (l : List UInt8) (f : Nat) (hn : ∀ (j : Nat) (hj : j < l.length), f ≤ j → ¬ l[j] = c) : splitOn c (l.drop f) = [l.drop f] := by
  refine splitOn_miss c _ (fun x hx => ?_)
  rw [List.mem_iff_getElem?] at hx
  obtain ⟨j, hj⟩ := hx
  rw [List.getElem?_drop] at hj
  obtain ⟨h1, h2⟩ := List.getElem?_eq_some_iff.1 hj
  intro hx2
  exact hn (f + j) h1 (by omega) (h2.trans hx2)

set_option maxHeartbeats 8000000 in
set_option maxRecDepth 4000 in
theorem Tryz.rsplit_any (s : ByteArray) (c : UInt8) (w : World) (hs : s.size ≤ 4294967281) :
    Calls Tryz.prog 78 #[.string s, .int .u8 c.toNat] w fun e w' => (∃ v, e = .returned v ∧ w'.ownsRow w.heap.size 9 1 v (splitOn c s.data.toList).length (strs (splitOn c s.data.toList))) ∧ Below w.heap.size w w' := by
  obtain ⟨i0, hi, hz0, hz1, hz2⟩ := info_parts Tryz.infoStr
  obtain ⟨l, hl⟩ : ∃ l, l = s.data.toList := ⟨_, rfl⟩
  have hlen : l.length = s.size := by rw [hl, Array.length_toList]; rfl
  have HG : Hid (∀ (k : Nat) (h : k < s.size) (h2 : k < l.length), l[k] = s[k]) := by
    intro k h h2
    subst hl
    simp
    rfl
  have HXT : Hid (∀ i j : Nat, s.extract i j = ⟨((l.drop i).take (j - i)).toArray⟩) := by
    intro i j
    rw [hl]
    exact extract_list s i j
  rw [← hl]
  have HLN : Hid (l.length = s.size) := hlen
  clear hl
  go_enter Tryz.func78, Tryz.ntmps78
  go_wp2_with fail
  go_loopw [5, 6, 7] (fun v f i wr => ∃ (a k : Nat) (ps : List (List UInt8)), a ≤ k ∧ k ≤ s.size ∧ ps.length ≤ a ∧ f = .int .i64 a ∧ i = .int .i64 k ∧ wr.ownsRow w.heap.size 9 1 v ps.length (strs ps) ∧ ps ++ splitOn c (l.drop a) = splitOn c l ∧ (∀ (j : Nat) (hj : j < l.length), a ≤ j → j < k → ¬ l[j] = c) ∧ Below w.heap.size w wr) (fun _ _ i _ => s.size - (intOf i).toNat)
  case atStart => exact ⟨0, 0, [], Nat.le_refl _, Nat.zero_le _, Nat.le_refl _, rfl, rfl, ⟨rfl, Or.inl ⟨rfl, rfl⟩⟩, rfl, fun j hj h1 h2 => by omega, Below.refl _ _⟩
  case round =>
    obtain ⟨a, k, ps, hak, hk, hpl, rfl, rfl, hown, hrest, hno, hb⟩ := hrel
    obtain ⟨sp, cap, rfl, _⟩ := own_shape hown
    have HB : Hid (Below w.heap.size w wr) := hb
    have HO : Hid (wr.ownsRow w.heap.size 9 1 (.slice sp ps.length cap) ps.length (strs ps)) := hown
    have HRE : Hid (ps ++ splitOn c (l.drop a) = splitOn c l) := hrest
    have HNO : Hid (∀ (j : Nat) (hj : j < l.length), a ≤ j → j < k → ¬ l[j] = c) := hno
    have hbz := hb.size
    clear hb hown hrest hno
    by_cases hlt : k < s.size
    · have h2 : k < l.length := by omega
      have hg := HG.out k hlt h2
      by_cases hc : s[k] = c
      · have hc2 : ((s[k].toNat : Int) == (c.toNat : Int)) = true := by rw [hc]; simp
        have HX : Hid (s.extract a k = ⟨((l.drop a).take (k - a)).toArray⟩) := HXT.out a k
        have HFI : Hid ((ps ++ [(l.drop a).take (k - a)]) ++ splitOn c (l.drop (k + 1)) = splitOn c l) := by
          show _ = _
          rw [← HRE.out, split_at c l a k hak h2 HNO.out (hg.trans hc)]
          simp
        generalize (l.drop a).take (k - a) = pc at *
        obtain ⟨xb, hxb⟩ : ∃ xb : ByteArray, xb = s.extract a k := ⟨_, rfl⟩
        have HXB : Hid (xb = ⟨pc.toArray⟩) := hxb.trans HX.out
        have hxb2 : s.extract a k = xb := hxb.symm
        have hak2 : (a : Int) ≤ (k : Int) := by omega
        have hks : (k : Int) ≤ (s.size : Int) := by omega
        have ha0 : (0 : Int) ≤ (a : Int) := by omega
        have HO4 := HO.out.alloc (.cells #[.string xb] 9)
        clear hg hxb HX hc
        go_wp2_with (at_builtin; refine wpList_append_lies _ rfl _ _ 28 rfl w.heap.size 9 i0 (.string ⟨#[]⟩) 1 16 Tryz.underlying28 hi hz0 hz1 hz2 rfl (by decide) _ _ _ rfl HO4 ⟨wr.heap.size, 0, none⟩ 1 1 [.string xb] rfl rfl ?c1 ?c2 (by decide) ?c3 ?c4 ?c5 _ rfl ?_)
        case c1 =>
          intro j u hj
          match j, hj with
          | 0, hj => simp at hj; subst hj; exact World.cell?_alloc_new wr #[.string xb] 9 0
        case c2 => intro u hu; simp at hu; subst hu; rfl
        case c3 => unfold maxLen; omega
        case c4 => omega
        case c5 => simp; omega
        intro g cap3 w5 hown' hgrow hat hglt
        have HOW : Hid (w5.ownsRow w.heap.size 9 1 (.slice (some ⟨g, 0, none⟩) (ps.length + 1) cap3) (ps.length + 1) (strs ps ++ [.string xb])) := hown'
        have HBN : Hid (Below w.heap.size w w5) := (HB.out.alloc hbz _).grown hgrow (by simp; omega) (fun k hk => (HO4.lt k hk).1)
        clear hown' hgrow HO4 hat
        go_wp2
        go_roundw
        case rel =>
          refine ⟨k + 1, k + 1, ps ++ [pc], Nat.le_refl _, by omega, by simp; omega, by go_num, by go_num, ?_, HFI.out, fun j hj h1 h2 => by omega, HBN.out⟩
          rw [List.length_append, strs_app]
          have e : strs [pc] = [.string xb] := by rw [HXB.out]; rfl
          rw [e]
          exact HOW.out
        case measure => (simp [intOf]; try omega)
      · have hc2 : ((s[k].toNat : Int) == (c.toNat : Int)) = false := by
          rw [beq_eq_false_iff_ne]
          intro h
          exact hc (UInt8.toNat_inj.1 (by omega))
        have HNX : Hid (∀ (j : Nat) (hj : j < l.length), a ≤ j → j < k + 1 → ¬ l[j] = c) := by
          intro j hj h1 h3
          by_cases e : j = k
          · subst e; rw [hg]; exact hc
          · exact HNO.out j hj h1 (by omega)
        clear hg
        go_wp2
        go_roundw
        case rel => exact ⟨a, k + 1, ps, by omega, by omega, hpl, rfl, by go_num, HO.out, HRE.out, HNX.out, HB.out⟩
        case measure => (simp [intOf]; try omega)
    · have hke : k = s.size := by omega
      subst hke
      have HFI : Hid (ps ++ [l.drop a] = splitOn c l) := by
        show _ = _
        rw [← HRE.out, split_none c l a (fun j hj h1 => HNO.out j hj h1 (by omega))]
      have HX : Hid (s.extract a s.size = ⟨(l.drop a).toArray⟩) := by
        show _ = _
        rw [HXT.out a s.size, List.take_of_length_le (by rw [List.length_drop]; omega)]
      generalize l.drop a = pc at *
      obtain ⟨xb, hxb⟩ : ∃ xb : ByteArray, xb = s.extract a s.size := ⟨_, rfl⟩
      have HXB : Hid (xb = ⟨pc.toArray⟩) := hxb.trans HX.out
      have hxb2 : s.extract a s.size = xb := hxb.symm
      have hak2 : (a : Int) ≤ (s.size : Int) := by omega
      have ha0 : (0 : Int) ≤ (a : Int) := by omega
      have HO4 := HO.out.alloc (.cells #[.string xb] 9)
      clear hxb HX
      go_wp2_with (at_builtin; refine wpList_append_lies _ rfl _ _ 28 rfl w.heap.size 9 i0 (.string ⟨#[]⟩) 1 16 Tryz.underlying28 hi hz0 hz1 hz2 rfl (by decide) _ _ _ rfl HO4 ⟨wr.heap.size, 0, none⟩ 1 1 [.string xb] rfl rfl ?c1 ?c2 (by decide) ?c3 ?c4 ?c5 _ rfl ?_)
      case c1 =>
        intro j u hj
        match j, hj with
        | 0, hj => simp at hj; subst hj; exact World.cell?_alloc_new wr #[.string xb] 9 0
      case c2 => intro u hu; simp at hu; subst hu; rfl
      case c3 => unfold maxLen; omega
      case c4 => omega
      case c5 => simp; omega
      intro g cap3 w5 hown' hgrow hat hglt
      have HOW : Hid (w5.ownsRow w.heap.size 9 1 (.slice (some ⟨g, 0, none⟩) (ps.length + 1) cap3) (ps.length + 1) (strs ps ++ [.string xb])) := hown'
      have HBN : Hid (Below w.heap.size w w5) := (HB.out.alloc hbz _).grown hgrow (by simp; omega) (fun k hk => (HO4.lt k hk).1)
      clear hown' hgrow HO4 hat
      go_wp2
      go_ret
      refine ⟨⟨_, rfl, ?_⟩, HBN.out⟩
      rw [← HFI.out, List.length_append, strs_app]
      have e : strs [pc] = [.string xb] := by rw [HXB.out]; rfl
      rw [e]
      exact HOW.out
end Go.Proofs
/-
  What numeric of package moorref answers.
-/
namespace Go.Proofs
open Go.RowKit Go.Moor

theorem dig_fin : ∀ c : Fin 256, decide (hexVal c.val < 10) = decide (48 ≤ c.val ∧ c.val ≤ 57) := by decide +kernel
theorem dig_is (c : UInt8) : decide (hexVal c.toNat < 10) = refDigit c := dig_fin ⟨c.toNat, c.toNat_lt⟩
theorem allB_dig (l : List UInt8) : allB 10 l = l.all refDigit := by
  unfold allB
  congr 1
  funext c
  exact dig_is c
theorem numLabel_is (l : List UInt8) : numLabel l = if l = [] then false else if l.all refDigit then true else if Lib.hasPrefix l [48, 120] then allB 16 (l.drop 2) else false := by
  unfold numLabel
  by_cases h0 : l = []
  · subst h0; rfl
  · rw [if_neg h0]
    by_cases hp : Lib.hasPrefix l [48, 120] = true
    · have hx : ¬ l.all refDigit = true := by
        intro h
        match l, hp, h with
        | [], hp, _ => simp [Lib.hasPrefix] at hp
        | [a], hp, _ => simp [Lib.hasPrefix] at hp
        | a :: b :: r, hp, h =>
          simp [Lib.hasPrefix] at hp
          rw [List.all_eq_true] at h
          have := h b (by simp)
          rw [← hp.2] at this
          exact absurd this (by decide)
      rw [if_pos hp, if_neg hx, if_pos hp]
    · rw [if_neg hp, allB_dig]
      have he : l.isEmpty = false := by cases l with | nil => exact absurd rfl h0 | cons => rfl
      rw [he]
      by_cases ha : l.all refDigit = true
      · rw [if_pos ha, ha]; rfl
      · rw [if_neg ha, if_neg hp]
        have : l.all refDigit = false := by simpa using ha
        rw [this]; rfl

set_option maxHeartbeats 8000000 in
set_option maxRecDepth 4000 in
theorem Tryz.rnumeric_any (s : ByteArray) (w : World) (hs : s.size ≤ 35184372088832) :
    Calls Tryz.prog 119 #[.string s] w fun e w' => e = .returned (.bool (numLabel s.data.toList)) ∧ w' = w := by
  obtain ⟨l, hl⟩ : ∃ l, l = s.data.toList := ⟨_, rfl⟩
  have hlen : l.length = s.size := by rw [hl, Array.length_toList]; rfl
  have HG : Hid (∀ (k : Nat) (h : k < s.size) (h2 : k < l.length), l[k] = s[k]) := by
    intro k h h2
    subst hl
    simp
    rfl
  have HXT : Hid (∀ i j : Nat, s.extract i j = ⟨((l.drop i).take (j - i)).toArray⟩) := by
    intro i j
    rw [hl]
    exact extract_list s i j
  have hemp : s.toList.isEmpty = l.isEmpty := by rw [hl, Lib.toList_data]
  rw [← hl, numLabel_is]
  have HDI : Hid (∀ (c : UInt8) w1, Calls Tryz.prog 173 #[.int .u8 c.toNat] w1 fun e w' => e = .returned (.bool (refDigit c)) ∧ w' = w1) := fun c w1 => Tryz.rdigit_any c w1
  have HHX : Hid (∀ (c : UInt8) w1, Calls Tryz.prog 66 #[.int .u8 c.toNat] w1 fun e w' => e = .returned (.int .i64 (refHex c)) ∧ w' = w1) := fun c w1 => Tryz.rhex_any c w1
  have HLN : Hid (l.length = s.size) := hlen
  clear hl
  by_cases h0 : l = []
  · rw [if_pos h0]
    rw [h0] at hemp
    have hemp2 : s.toList.isEmpty = true := hemp
    clear hemp
    go_enter Tryz.func119, Tryz.ntmps119
    go_wp2
    go_ret
    exact ⟨rfl, rfl⟩
  · rw [if_neg h0]
    have he : l.isEmpty = false := by cases l with | nil => exact absurd rfl h0 | cons => rfl
    rw [he] at hemp
    suffices key : ∀ res : Bool, Hid (l.all refDigit = true → res = true) → Hid (l.all refDigit = false → res = if Lib.hasPrefix l [48, 120] then allB 16 (l.drop 2) else false) → Calls Tryz.prog 119 #[.string s] w fun e w' => e = .returned (.bool res) ∧ w' = w from key _ (fun h => if_pos h) (fun h => if_neg (by simp [h]))
    intro res HR1 HR2
    go_enter Tryz.func119, Tryz.ntmps119
    go_wp2_with fail
    go_loopw [3, 4] (fun o i wr => ∃ k : Nat, k ≤ s.size ∧ i = .int .i64 k ∧ o = .bool ((l.take k).all refDigit) ∧ wr = w) (fun _ i _ => s.size - (intOf i).toNat)
    case atStart => exact ⟨0, Nat.zero_le _, rfl, rfl, rfl⟩
    case round =>
      obtain ⟨k, hk, rfl, rfl, hwr⟩ := hrel
      have hwr := hwr.symm
      subst hwr
      by_cases hlt : k < s.size
      · have h2 : k < l.length := by omega
        have hg := HG.out k hlt h2
        have HNX : Hid ((l.take (k + 1)).all refDigit = ((l.take k).all refDigit && refDigit s[k])) := by
          show _ = _
          rw [take_next l k h2, List.all_append, hg]
          simp
        have HD : Hid _ := HDI.out s[k] w
        generalize (l.take k).all refDigit = ac at *
        generalize refDigit s[k] = d at *
        clear hg
        go_wp2_with fail
        refine Calls.mono HD.out ?_
        rintro e W0 ⟨rfl, hw0⟩
        have hw0 := hw0.symm
        subst hw0
        cases ac with
        | true =>
          go_wp2
          go_roundw
          case rel => exact ⟨k + 1, by omega, by go_num, by rw [HNX.out]; rfl, trivial⟩
          case measure => (simp [intOf]; try omega)
        | false =>
          go_wp2
          go_roundw
          case rel => exact ⟨k + 1, by omega, by go_num, by rw [HNX.out]; rfl, trivial⟩
          case measure => (simp [intOf]; try omega)
      · have hte : l.take k = l := List.take_of_length_le (by omega)
        rw [hte]
        clear hte
        cases hall : l.all refDigit with
        | true =>
          have hres := HR1.out hall
          subst hres
          go_wp2
          go_ret
          exact ⟨rfl, rfl⟩
        | false =>
          have hres := HR2.out hall
          have HRES : Hid _ := hres
          clear hres HR1 HR2 hall HDI
          by_cases h2 : s.size < 2
          · have hi2 : (s.size : Int) < 2 := by omega
            have HRF : Hid (res = false) := by
              show _ = _
              rw [HRES.out, if_neg]
              intro hp
              match l, hp, HLN.out with
              | [], hp, _ => simp [Lib.hasPrefix] at hp
              | [a], hp, _ => simp [Lib.hasPrefix] at hp
              | a :: b :: r, _, hl => simp at hl; omega
            go_wp2
            go_ret
            rw [HRF.out]
            exact ⟨rfl, rfl⟩
          · have hi2 : ¬ (s.size : Int) < 2 := by omega
            have hi3 : (2 : Int) ≤ (s.size : Int) := by omega
            have hpx : ((s.extract 0 2).toList == [48, 120]) = Lib.hasPrefix l [48, 120] := by
              rw [HXT.out 0 2, Lib.toList_data]
              show (List.take 2 (List.drop 0 l) == [48, 120]) = _
              match l, HLN.out with
              | [], hl => simp at hl; omega
              | [a], hl => simp at hl; omega
              | a :: b :: r, _ =>
                simp [Lib.hasPrefix]
                rw [Bool.eq_iff_iff]
                simp
                constructor
                · rintro ⟨rfl, rfl⟩; exact ⟨rfl, rfl⟩
                · rintro ⟨rfl, rfl⟩; exact ⟨rfl, rfl⟩
            cases hp : Lib.hasPrefix l [48, 120] with
            | false =>
              rw [hp] at hpx
              have HRF : Hid (res = false) := by
                show _ = _
                rw [HRES.out, if_neg (by simp [hp])]
              clear hp
              go_wp2
              go_ret
              rw [HRF.out]
              exact ⟨rfl, rfl⟩
            | true =>
              rw [hp] at hpx
              have HRF : Hid (res = allB 16 (l.drop 2)) := by
                show _ = _
                rw [HRES.out, if_pos hp]
              clear hp HRES
              go_wp2_with fail
              go_loopw [6] (fun i wr => ∃ k : Nat, 2 ≤ k ∧ k ≤ s.size ∧ i = .int .i64 k ∧ (∀ (j : Nat) (hj : j < l.length), 2 ≤ j → j < k → hexVal l[j].toNat < 16) ∧ wr = w) (fun i _ => s.size - (intOf i).toNat)
              case atStart => exact ⟨2, Nat.le_refl _, by omega, rfl, fun j hj h1 h2 => by omega, rfl⟩
              case round =>
                obtain ⟨k, hk2, hk, rfl, hgood, hwr⟩ := hrel
                have hwr := hwr.symm
                subst hwr
                have HGD : Hid (∀ (j : Nat) (hj : j < l.length), 2 ≤ j → j < k → hexVal l[j].toNat < 16) := hgood
                clear hgood
                by_cases hlt : k < s.size
                · have h2 : k < l.length := by omega
                  have hg := HG.out k hlt h2
                  have HH : Hid _ := HHX.out s[k] w
                  by_cases hx : hexVal s[k].toNat < 16
                  · have hr := (refHex_ok _ hx).2.1
                    have HGN : Hid (∀ (j : Nat) (hj : j < l.length), 2 ≤ j → j < k + 1 → hexVal l[j].toNat < 16) := by
                      intro j hj h1 h3
                      by_cases e : j = k
                      · subst e; rw [hg]; exact hx
                      · exact HGD.out j hj h1 (by omega)
                    generalize refHex s[k] = r at *
                    have hr2 : ¬ r < 0 := by omega
                    clear hg hx
                    go_wp2_with fail
                    refine Calls.mono HH.out ?_
                    rintro e W0 ⟨rfl, hw0⟩
                    have hw0 := hw0.symm
                    subst hw0
                    go_wp2
                    go_roundw
                    case rel => exact ⟨k + 1, by omega, by omega, by go_num, HGN.out, trivial⟩
                    case measure => (simp [intOf]; try omega)
                  · have hr := refHex_no _ hx
                    have HRN : Hid (allB 16 (l.drop 2) = false) := by
                      show _ = _
                      unfold allB
                      rw [Bool.eq_false_iff]
                      intro ha
                      rw [List.all_eq_true] at ha
                      have := ha l[k] (List.mem_of_getElem? (i := k - 2) (by rw [List.getElem?_drop, show 2 + (k - 2) = k by omega]; exact List.getElem?_eq_getElem h2))
                      rw [hg] at this
                      exact hx (by simpa using this)
                    rw [hr] at HH
                    clear hg hx hr
                    go_wp2_with fail
                    refine Calls.mono HH.out ?_
                    rintro e W0 ⟨rfl, hw0⟩
                    have hw0 := hw0.symm
                    subst hw0
                    go_wp2
                    go_ret
                    rw [HRF.out, HRN.out]
                    exact ⟨rfl, rfl⟩
                · have HRT : Hid (allB 16 (l.drop 2) = true) := by
                    show _ = _
                    unfold allB
                    rw [List.all_eq_true]
                    intro c hc
                    rw [List.mem_iff_getElem?] at hc
                    obtain ⟨j, hj⟩ := hc
                    rw [List.getElem?_drop] at hj
                    obtain ⟨h1, h2⟩ := List.getElem?_eq_some_iff.1 hj
                    have := HGD.out (2 + j) h1 (by omega) (by omega)
                    rw [h2] at this
                    simpa using this
                  go_wp2
                  go_ret
                  rw [HRF.out, HRT.out]
                  exact ⟨rfl, rfl⟩
end Go.Proofs
