import Derived.Test.YtkcnageeamappaaGreatDoorXUndo
import Derived.Test.YtkcnageeamappaaGreatDoorXFPlain
import Derived.Lib.LaidTab
namespace Go.Proofs
open Go.RowKit Go.Moor
set_option maxHeartbeats 1000000 in
theorem Tryz.rhas_any (s : ByteArray) (c : UInt8) (w : World) (hs : s.size ≤ 35184372088832) :
    Calls Tryz.prog 110 #[.string s, .int .u8 c.toNat] w fun e w' => e = .returned (.bool (s.data.toList.contains c)) ∧ w' = w := by
  go_enter Tryz.func110, Tryz.ntmps110
  go_wp2_with fail
  go_loopw [5] (fun i wr => ∃ k : Nat, k ≤ s.size ∧ i = .int .i64 k ∧ (∀ (j : Nat) (hj : j < s.size), j < k → ¬ s[j] = c) ∧ wr = w) (fun i _ => s.size - (intOf i).toNat)
  case atStart => exact ⟨0, Nat.zero_le _, rfl, fun j hj h => by omega, rfl⟩
  case round =>
    obtain ⟨k, hk, rfl, hno, rfl⟩ := hrel
    have HN : Hid (∀ (j : Nat) (hj : j < s.size), j < k → ¬ s[j] = c) := hno
    clear hno
    by_cases hlt : k < s.size
    · by_cases hb : s[k] = c
      · have HC : Hid (s.data.toList.contains c = true) := by
          show _ = _
          rw [List.contains_iff_mem, ← hb]
          exact List.mem_of_getElem? (i := k) (by rw [Array.getElem?_toList]; exact Array.getElem?_eq_getElem hlt)
        have hc : (s[k].toNat : Int) = (c.toNat : Int) := by rw [hb]
        have hc2 : ((s[k].toNat : Int) == (c.toNat : Int)) = true := by simpa using hc
        go_wp2
        go_ret
        rw [HC.out]
        exact ⟨rfl, rfl⟩
      · have hc2 : ((s[k].toNat : Int) == (c.toNat : Int)) = false := by
          rw [beq_eq_false_iff_ne]
          intro h
          exact hb (UInt8.toNat_inj.1 (by omega))
        go_wp2
        go_roundw
        case rel =>
          refine ⟨k + 1, by omega, by go_num, fun j hj h => ?_, trivial⟩
          by_cases e : j = k
          · subst e; exact hb
          · exact HN.out j hj (by omega)
        case measure => (simp [intOf]; try omega)
    · have HC : Hid (s.data.toList.contains c = false) := by
        show _ = _
        rw [Bool.eq_false_iff]
        intro h
        rw [List.contains_iff_mem, List.mem_iff_getElem?] at h
        obtain ⟨j, hj⟩ := h
        rw [Array.getElem?_toList, Array.getElem?_eq_some_iff] at hj
        obtain ⟨h1, h2⟩ := hj
        exact HN.out j h1 (by have : j < s.size := h1; omega) h2
      go_wp2
      go_ret
      rw [HC.out]
      exact ⟨rfl, rfl⟩
def refHex (c : UInt8) : Int := if hexVal c.toNat < 16 then hexVal c.toNat else -1
set_option maxHeartbeats 1000000 in
theorem Tryz.rhex_any (c : UInt8) (w : World) : Calls Tryz.prog 66 #[.int .u8 c.toNat] w fun e w' => e = .returned (.int .i64 (refHex c)) ∧ w' = w := by
  have hc := c.toNat_lt
  have HV : Hid (∀ n : Int, n = c.toNat → refHex c = if 48 ≤ n ∧ n ≤ 57 then n - 48 else if 97 ≤ n ∧ n ≤ 102 then n - 97 + 10 else if 65 ≤ n ∧ n ≤ 70 then n - 65 + 10 else -1) := by
    intro n hn
    unfold refHex hexVal
    rw [← hn]
    repeat' split
    all_goals omega
  obtain ⟨n, hn⟩ : ∃ n : Int, n = c.toNat := ⟨_, rfl⟩
  have HVN := HV.out n hn
  rw [HVN, ← hn]
  have h0 : 0 ≤ n ∧ n ≤ 255 := by omega
  obtain ⟨h00, h01⟩ := h0
  clear HVN HV hn hc
  by_cases h1 : 48 ≤ n
  · by_cases h2 : n ≤ 57
    · rw [if_pos ⟨h1, h2⟩]
      go_enter Tryz.func66, Tryz.ntmps66
      go_wp2
      go_ret
      exact ⟨by first | rfl | go_num, rfl⟩
    · rw [if_neg (by omega)]
      by_cases h3 : 97 ≤ n
      · by_cases h4 : n ≤ 102
        · rw [if_pos ⟨h3, h4⟩]
          go_enter Tryz.func66, Tryz.ntmps66
          go_wp2
          go_ret
          exact ⟨by first | rfl | go_num, rfl⟩
        · rw [if_neg (by omega)]
          have h5 : 65 ≤ n := by omega
          have h6 : ¬ n ≤ 70 := by omega
          rw [if_neg (by omega)]
          go_enter Tryz.func66, Tryz.ntmps66
          go_wp2
          go_ret
          exact ⟨by first | rfl | go_num, rfl⟩
      · rw [if_neg (by omega)]
        by_cases h5 : 65 ≤ n
        · by_cases h6 : n ≤ 70
          · rw [if_pos ⟨h5, h6⟩]
            go_enter Tryz.func66, Tryz.ntmps66
            go_wp2
            go_ret
            exact ⟨by first | rfl | go_num, rfl⟩
          · rw [if_neg (by omega)]
            go_enter Tryz.func66, Tryz.ntmps66
            go_wp2
            go_ret
            exact ⟨by first | rfl | go_num, rfl⟩
        · rw [if_neg (by omega)]
          go_enter Tryz.func66, Tryz.ntmps66
          go_wp2
          go_ret
          exact ⟨by first | rfl | go_num, rfl⟩
  · have h3 : ¬ 97 ≤ n := by omega
    have h5 : ¬ 65 ≤ n := by omega
    rw [if_neg (by omega), if_neg (by omega), if_neg (by omega)]
    go_enter Tryz.func66, Tryz.ntmps66
    go_wp2
    go_ret
    exact ⟨by first | rfl | go_num, rfl⟩
def refDigit (c : UInt8) : Bool := decide (48 ≤ c.toNat ∧ c.toNat ≤ 57)
set_option maxHeartbeats 1000000 in
theorem Tryz.rdigit_any (c : UInt8) (w : World) : Calls Tryz.prog 173 #[.int .u8 c.toNat] w fun e w' => e = .returned (.bool (refDigit c)) ∧ w' = w := by
  by_cases h1 : (48 : Int) ≤ (c.toNat : Int)
  · by_cases h2 : (c.toNat : Int) ≤ 57
    · have HR : Hid (refDigit c = true) := by show _ = _; unfold refDigit; rw [decide_eq_true_eq]; omega
      rw [HR.out]
      go_enter Tryz.func173, Tryz.ntmps173
      go_wp2
      go_ret
      exact ⟨rfl, rfl⟩
    · have HR : Hid (refDigit c = false) := by show _ = _; unfold refDigit; rw [decide_eq_false_iff_not]; omega
      rw [HR.out]
      go_enter Tryz.func173, Tryz.ntmps173
      go_wp2
      go_ret
      exact ⟨rfl, rfl⟩
  · have HR : Hid (refDigit c = false) := by show _ = _; unfold refDigit; rw [decide_eq_false_iff_not]; omega
    rw [HR.out]
    go_enter Tryz.func173, Tryz.ntmps173
    go_wp2
    go_ret
    exact ⟨rfl, rfl⟩
set_option maxHeartbeats 1000000 in
theorem Tryz.rcapital_any (n : Nat) (h : n < 16) (w : World) : Calls Tryz.prog 111 #[.int .u8 (n : Int)] w fun e w' => e = .returned (.int .u8 (hexCap n).toNat) ∧ w' = w := by
  have HX : Hid (((hexCap n).toNat : Int) = if n < 10 then 48 + (n : Int) else 55 + (n : Int)) := by
    show _ = _
    have : ∀ k : Fin 16, ((hexCap k.val).toNat : Int) = if k.val < 10 then 48 + (k.val : Int) else 55 + (k.val : Int) := by decide +kernel
    exact this ⟨n, h⟩
  rw [HX.out]
  by_cases h1 : n < 10
  · rw [if_pos h1]
    have h2 : (n : Int) < 10 := by omega
    go_enter Tryz.func111, Tryz.ntmps111
    go_wp2
    go_ret
    exact ⟨by first | rfl | go_num, rfl⟩
  · rw [if_neg h1]
    have h2 : ¬ (n : Int) < 10 := by omega
    go_enter Tryz.func111, Tryz.ntmps111
    go_wp2
    go_ret
    exact ⟨by first | rfl | go_num, rfl⟩
end Go.Proofs
namespace Go.Proofs
open Go.RowKit Go.Moor
def Tryz.Err (g : Nat) (w : World) : Prop := ∃ t v, w.cell? ⟨g, 0, none⟩ = some (.iface t v)
structure Tryz.Env (w : World) : Prop where
  size : 29 ≤ w.heap.size
  sets : Tryz.Sets w
  maxLen : ∃ m, w.cell? ⟨16, 0, none⟩ = some (.int .i64 m)
  eEmpty : Tryz.Err 5 w
  eBracket : Tryz.Err 4 w
  eCount : Tryz.Err 14 w
  eLength : Tryz.Err 18 w
  eNought : Tryz.Err 24 w
  eGreat : Tryz.Err 23 w
  pow10 : Lib.TabIs Tryz.prog w "internal/strconv.uint64pow10" .u64 Lib.pow10Tab
  errType : w.cell? ⟨2, 0, none⟩ = some (.iface 193 (.agg #[.pointer (some ⟨29, 65, none⟩)]))
theorem Tryz.Err.below {g : Nat} {w w' : World} (h : Tryz.Err g w) (hb : Below w.heap.size w w') (hz : g < w.heap.size) : Tryz.Err g w' := by
  obtain ⟨t, v, hc⟩ := h
  exact ⟨t, v, by rw [hb.cell (p := ⟨g, 0, none⟩) hz]; exact hc⟩
theorem Tryz.gPow : Tryz.prog.globalNamed "internal/strconv.uint64pow10" = some 20 := by kernel_rfl
theorem Tryz.Env.below {w w' : World} (h : Tryz.Env w) (hb : Below w.heap.size w w') : Tryz.Env w' := by
  have hz := h.size
  obtain ⟨m, hm⟩ := h.maxLen
  refine ⟨Nat.le_trans hz hb.size, Tryz.sets_below h.sets hb (by omega), ⟨m, Tryz.maxLen_below hm hb (by omega)⟩, h.eEmpty.below hb (by omega), h.eBracket.below hb (by omega), h.eCount.below hb (by omega), h.eLength.below hb (by omega), h.eNought.below hb (by omega), h.eGreat.below hb (by omega), ?_, ?_⟩
  · have := h.pow10
    unfold Lib.TabIs at this ⊢
    rw [← this]
    simp only [World.var?, Tryz.gPow, Option.bind_some, hb.block 20 (by omega)]
  · rw [hb.cell (p := ⟨2, 0, none⟩) (show _ < w.heap.size by show 2 < _; omega)]; exact h.errType
theorem Tryz.Env.drew {w : World} (h : Tryz.Env w) (n : Nat) : Tryz.Env (w.drewN n) := h.below (Go.below_drewN (Below.refl _ w) n)
end Go.Proofs
namespace Go.Proofs
open Go.RowKit Go.Moor
def NumRes (o : Option Int) (e : Ending) : Prop :=
  match o with
  | some n => e = .returned (.tuple #[.int .u64 n, .nilIface])
  | none => ∃ t v, e = .returned (.tuple #[.int .u64 0, .iface t v])
theorem digAcc_step (base most n : Int) (s : ByteArray) (k : Nat) (h : k < s.size) (hd : hexVal s[k].toNat < base) (hm : n * base + hexVal s[k].toNat ≤ most) :
    digAcc base most n (s.data.toList.drop k) = digAcc base most (n * base + hexVal s[k].toNat) (s.data.toList.drop (k + 1)) := by
  rw [List.drop_eq_getElem_cons (by simpa using h)]
  show (if hexVal s[k].toNat < base then (if n * base + hexVal s[k].toNat ≤ most then _ else _) else _) = _
  rw [if_pos hd, if_pos hm]; rfl
theorem digAcc_bad (base most n : Int) (s : ByteArray) (k : Nat) (h : k < s.size) (hd : ¬ hexVal s[k].toNat < base) :
    digAcc base most n (s.data.toList.drop k) = none := by
  rw [List.drop_eq_getElem_cons (by simpa using h)]
  show (if hexVal s[k].toNat < base then (if n * base + hexVal s[k].toNat ≤ most then _ else _) else _) = _
  rw [if_neg hd]
theorem digAcc_great (base most n : Int) (s : ByteArray) (k : Nat) (h : k < s.size) (hm : ¬ n * base + hexVal s[k].toNat ≤ most) :
    digAcc base most n (s.data.toList.drop k) = none := by
  rw [List.drop_eq_getElem_cons (by simpa using h)]
  show (if hexVal s[k].toNat < base then (if n * base + hexVal s[k].toNat ≤ most then _ else _) else _) = _
  split
  · first | rw [if_neg hm] | rfl
  · rfl
set_option maxHeartbeats 1000000 in
theorem Tryz.readDigits_any (s : ByteArray) (base most : Int) (w : World) (hs : s.size ≤ maxLen) (hb0 : 2 ≤ base) (hb1 : base ≤ 16) (hm0 : 0 ≤ most) (hm1 : most ≤ 4294967295) (he : Tryz.Err 23 w) :
    Calls Tryz.prog 264 #[.string s, .int .u64 base, .int .u64 most] w fun e w' => NumRes (digAcc base most 0 s.data.toList) e ∧ ∃ n, w' = w.drewN n := by
  unfold maxLen at hs
  obtain ⟨te, ve, hce⟩ := he
  generalize hgo : digAcc base most 0 s.data.toList = goal
  have HG : Hid (digAcc base most 0 s.data.toList = goal) := hgo
  clear hgo
  go_enter Tryz.func264, Tryz.ntmps264
  go_wp2
  go_loop [8, 9] (fun n i => ∃ (k : Nat) (v : Int), k ≤ s.size ∧ i = .int .i64 k ∧ n = .int .u64 v ∧ 0 ≤ v ∧ v ≤ most ∧ digAcc base most v (s.data.toList.drop k) = goal) (fun _ i => s.size - (intOf i).toNat)
  case atStart => exact ⟨0, 0, Nat.zero_le _, rfl, rfl, Int.le_refl _, hm0, HG.out⟩
  case round =>
    obtain ⟨k, v, hk, rfl, rfl, hv0, hv1, hrest⟩ := hrel
    have HR : Hid (digAcc base most v (s.data.toList.drop k) = goal) := hrest
    clear hrest
    by_cases hlt : k < s.size
    · have hc := s[k].toNat_lt
      have hx := hexVal_range s[k].toNat
      have hp0 : 0 ≤ v * base := Int.mul_nonneg hv0 (by omega)
      have hp1 : v * base ≤ 4294967295 * 16 := Int.mul_le_mul (by omega) hb1 (by omega) (by omega)
      by_cases hd : hexVal s[k].toNat < base
      · by_cases hg : v * base + hexVal s[k].toNat ≤ most
        · go_wp2_with (go_at_call 115; refine (Tryz.value_any _ _ (by omega) (by omega)).mono ?_; rintro e w' ⟨rfl, rfl⟩)
          go_round
          case rel => exact ⟨k + 1, _, by omega, by go_num, rfl, by omega, hg, by rw [← digAcc_step base most v s k hlt hd hg]; exact HR.out⟩
          case measure => simp [intOf]; omega
        · go_wp2_with (go_at_call 115; refine (Tryz.value_any _ _ (by omega) (by omega)).mono ?_; rintro e w' ⟨rfl, rfl⟩)
          go_quiet (fail)
          go_wp2
          go_ret2
          refine ⟨?_, _, rfl⟩
          have := HR.out
          rw [digAcc_great base most v s k hlt (by omega)] at this
          rw [← this]
          exact ⟨_, _, rfl⟩
      · go_wp2_with (go_at_call 115; refine (Tryz.value_any _ _ (by omega) (by omega)).mono ?_; rintro e w' ⟨rfl, rfl⟩)
        go_quiet (fail)
        go_wp2
        go_ret2
        refine ⟨?_, _, rfl⟩
        have := HR.out
        rw [digAcc_bad base most v s k hlt (by omega)] at this
        rw [← this]
        exact ⟨_, _, rfl⟩
    · go_wp2
      go_ret2
      refine ⟨?_, 0, rfl⟩
      have := HR.out
      rw [List.drop_eq_nil_of_le (by simp; omega)] at this
      rw [← this]
      rfl
theorem ext_drop (s : ByteArray) (k : Nat) : (s.extract k s.size).data.toList = s.data.toList.drop k := by
  rw [Lib.extract_data, List.take_of_length_le (by simp)]
theorem first_at (s : ByteArray) (a : UInt8) (l : List UInt8) (hl : s.data.toList = a :: l) (h : 0 < s.size) : s[0] = a := by
  have : s[0] = s.data.toList[0]'(by simpa using h) := rfl
  rw [this]; simp [hl]
theorem Tryz.prefix_yes (s p : ByteArray) (w : World) (h : Lib.hasPrefix s.data.toList p.data.toList = true) : Calls Tryz.prog 82 #[.string s, .string p] w fun e w' => e = .returned (.bool true) ∧ w' = w := by
  rw [← h]; exact Tryz.strings_HasPrefix s p w
theorem Tryz.prefix_no (s p : ByteArray) (w : World) (h : Lib.hasPrefix s.data.toList p.data.toList = false) : Calls Tryz.prog 82 #[.string s, .string p] w fun e w' => e = .returned (.bool false) ∧ w' = w := by
  rw [← h]; exact Tryz.strings_HasPrefix s p w
set_option maxHeartbeats 1000000 in
theorem Tryz.anyBase_empty (s : ByteArray) (most : Int) (w : World) (hem : s.toList.isEmpty = true) (he2 : Tryz.Err 5 w) :
    Calls Tryz.prog 238 #[.string s, .int .u64 most] w fun e w' => NumRes none e ∧ ∃ n, w' = w.drewN n := by
  obtain ⟨te, ve, hce⟩ := he2
  go_enter Tryz.func238, Tryz.ntmps238
  go_wp2
  go_quiet (fail)
  go_wp2
  go_ret2
  exact ⟨⟨_, _, rfl⟩, _, rfl⟩
theorem numRes_ret {o : Option Int} {e : Ending} (h : NumRes o e) : ∃ a b, e = .returned (.tuple #[.int .u64 a, b]) ∧ NumRes o (.returned (.tuple #[.int .u64 a, b])) := by
  cases o with
  | some n => exact ⟨n, .nilIface, h, rfl⟩
  | none => obtain ⟨t, v, h⟩ := h; exact ⟨0, .iface t v, h, ⟨t, v, rfl⟩⟩
set_option maxHeartbeats 1000000 in
theorem Tryz.anyBase_hex (s : ByteArray) (most : Int) (w : World) (hs : s.size ≤ maxLen) (hm0 : 0 ≤ most) (hm1 : most ≤ 4294967295) (hem : s.toList.isEmpty = false) (h2 : 2 ≤ s.size) (hpf : Lib.hasPrefix s.data.toList (⟨#[48, 120]⟩ : ByteArray).data.toList = true) (he : Tryz.Err 23 w) :
    Calls Tryz.prog 238 #[.string s, .int .u64 most] w fun e w' => NumRes (digAcc 16 most 0 (s.data.toList.drop 2)) e ∧ ∃ n, w' = w.drewN n := by
  have HE : Hid (Tryz.Err 23 w) := he
  have HP : Hid (Lib.hasPrefix s.data.toList (⟨#[48, 120]⟩ : ByteArray).data.toList = true) := hpf
  have HX := ext_drop s 2
  have HX2 : Hid ((s.extract 2 s.size).data.toList = s.data.toList.drop 2) := HX
  have hxs : (s.extract 2 s.size).size ≤ maxLen := by rw [ByteArray.size_extract]; unfold maxLen at hs ⊢; omega
  unfold maxLen at hs
  clear he hpf HX
  go_enter Tryz.func238, Tryz.ntmps238
  go_wp2_with (go_at_call 82; refine (Tryz.prefix_yes _ _ _ HP.out).mono ?_; rintro e w' ⟨rfl, rfl⟩)
  refine (Tryz.readDigits_any (s.extract 2 s.size) 16 most _ hxs (by omega) (by omega) hm0 hm1 HE.out).mono ?_
  rw [HX2.out]
  rintro e w1 ⟨hr, nd, rfl⟩
  obtain ⟨ra, rb, rfl, hr⟩ := numRes_ret hr
  have HR : Hid (NumRes (digAcc 16 most 0 (s.data.toList.drop 2)) (.returned (.tuple #[.int .u64 ra, rb]))) := hr
  clear hr
  go_wp2
  go_ret2
  exact ⟨HR.out, nd, rfl⟩
set_option maxHeartbeats 1000000 in
theorem Tryz.anyBase_oct (s : ByteArray) (most : Int) (w : World) (hs : s.size ≤ maxLen) (hm0 : 0 ≤ most) (hm1 : most ≤ 4294967295) (hem : s.toList.isEmpty = false) (h2 : 1 < s.size) (hpf : Lib.hasPrefix s.data.toList (⟨#[48, 120]⟩ : ByteArray).data.toList = false) (h48 : ((s[0].toNat : Int) == 48) = true) (he : Tryz.Err 23 w) :
    Calls Tryz.prog 238 #[.string s, .int .u64 most] w fun e w' => NumRes (digAcc 8 most 0 (s.data.toList.drop 1)) e ∧ ∃ n, w' = w.drewN n := by
  have HE : Hid (Tryz.Err 23 w) := he
  have HP : Hid (Lib.hasPrefix s.data.toList (⟨#[48, 120]⟩ : ByteArray).data.toList = false) := hpf
  have HX := ext_drop s 1
  have HX2 : Hid ((s.extract 1 s.size).data.toList = s.data.toList.drop 1) := HX
  have hxs : (s.extract 1 s.size).size ≤ maxLen := by rw [ByteArray.size_extract]; unfold maxLen at hs ⊢; omega
  unfold maxLen at hs
  clear he hpf HX
  go_enter Tryz.func238, Tryz.ntmps238
  go_wp2_with (go_at_call 82; refine (Tryz.prefix_no _ _ _ HP.out).mono ?_; rintro e w' ⟨rfl, rfl⟩)
  refine (Tryz.readDigits_any (s.extract 1 s.size) 8 most _ hxs (by omega) (by omega) hm0 hm1 HE.out).mono ?_
  rw [HX2.out]
  rintro e w1 ⟨hr, nd, rfl⟩
  obtain ⟨ra, rb, rfl, hr⟩ := numRes_ret hr
  have HR : Hid (NumRes (digAcc 8 most 0 (s.data.toList.drop 1)) (.returned (.tuple #[.int .u64 ra, rb]))) := hr
  clear hr
  go_wp2
  go_ret2
  exact ⟨HR.out, nd, rfl⟩
set_option maxHeartbeats 1000000 in
theorem Tryz.anyBase_dec (s : ByteArray) (most : Int) (w : World) (hs : s.size ≤ maxLen) (hm0 : 0 ≤ most) (hm1 : most ≤ 4294967295) (hem : s.toList.isEmpty = false) (h1 : 0 < s.size) (hpf : Lib.hasPrefix s.data.toList (⟨#[48, 120]⟩ : ByteArray).data.toList = false) (h48 : ((s[0].toNat : Int) == 48) = false ∨ (((s[0].toNat : Int) == 48) = true ∧ s.size < 2)) (he : Tryz.Err 23 w) :
    Calls Tryz.prog 238 #[.string s, .int .u64 most] w fun e w' => NumRes (digAcc 10 most 0 s.data.toList) e ∧ ∃ n, w' = w.drewN n := by
  have HE : Hid (Tryz.Err 23 w) := he
  have HP : Hid (Lib.hasPrefix s.data.toList (⟨#[48, 120]⟩ : ByteArray).data.toList = false) := hpf
  have hxs := hs
  unfold maxLen at hs
  clear he hpf
  rcases h48 with h48 | ⟨h48, hlt⟩
  all_goals
    go_enter Tryz.func238, Tryz.ntmps238
    go_wp2_with (go_at_call 82; refine (Tryz.prefix_no _ _ _ HP.out).mono ?_; rintro e w' ⟨rfl, rfl⟩)
    refine (Tryz.readDigits_any s 10 most _ hxs (by omega) (by omega) hm0 hm1 HE.out).mono ?_
    rintro e w1 ⟨hr, nd, rfl⟩
    obtain ⟨ra, rb, rfl, hr⟩ := numRes_ret hr
    have HR : Hid (NumRes (digAcc 10 most 0 s.data.toList) (.returned (.tuple #[.int .u64 ra, rb]))) := hr
    clear hr
    go_wp2
    go_ret2
    exact ⟨HR.out, nd, rfl⟩
theorem Tryz.readAnyBase_any (s : ByteArray) (most : Int) (w : World) (hs : s.size ≤ maxLen) (hm0 : 0 ≤ most) (hm1 : most ≤ 4294967295) (he : Tryz.Err 23 w) (he2 : Tryz.Err 5 w) :
    Calls Tryz.prog 238 #[.string s, .int .u64 most] w fun e w' => NumRes (anyBase most s.data.toList) e ∧ ∃ n, w' = w.drewN n := by
  have hlen : s.data.toList.length = s.size := by simp
  match hl : s.data.toList with
  | [] =>
    exact Tryz.anyBase_empty s most w (by rw [Lib.toList_data, hl]; rfl) he2
  | a :: l =>
    have hem : s.toList.isEmpty = false := by rw [Lib.toList_data, hl]; rfl
    have h1 : 0 < s.size := by rw [← hlen, hl]; simp
    have ha := first_at s a l hl h1
    by_cases h48 : a = 48
    · subst h48
      match l, hl with
      | [], hl =>
        have := Tryz.anyBase_dec s most w hs hm0 hm1 hem h1 (by rw [hl]; decide) (Or.inr ⟨by rw [ha]; decide, by rw [← hlen, hl]; simp⟩) he
        rw [hl] at this
        exact this
      | c :: r, hl =>
        by_cases hc : c = 120
        · subst hc
          have := Tryz.anyBase_hex s most w hs hm0 hm1 hem (by rw [← hlen, hl]; simp) (by rw [hl]; simp [Lib.hasPrefix, List.isPrefixOf]) he
          rw [hl] at this
          exact this
        · have := Tryz.anyBase_oct s most w hs hm0 hm1 hem (by rw [← hlen, hl]; simp) (by rw [hl]; simp [Lib.hasPrefix, List.isPrefixOf]; exact fun e => hc e.symm) (by rw [ha]; decide) he
          rw [hl] at this
          have e : anyBase most (48 :: c :: r) = digAcc 8 most 0 (c :: r) := by
            unfold anyBase
            split
            · rename_i h; simp at h
            · rename_i h; simp at h; exact absurd h.1 hc
            · rename_i _ h; simp at h; rw [h.1, h.2]
            · rename_i h1 h2; exact absurd rfl (h2 c r)
          rw [e]
          exact this
    · have := Tryz.anyBase_dec s most w hs hm0 hm1 hem h1 (by rw [hl]; simp [Lib.hasPrefix, List.isPrefixOf]; exact fun e => absurd e.symm h48) (Or.inl (by
        rw [ha]
        have : (a.toNat : Int) ≠ 48 := fun e => h48 (by
          apply UInt8.toNat_inj.1
          show a.toNat = 48
          omega)
        simpa using this)) he
      rw [hl] at this
      have e : anyBase most (a :: l) = digAcc 10 most 0 (a :: l) := by
        unfold anyBase
        split
        · rename_i h; simp at h
        · rename_i h; simp at h; exact absurd h.1 h48
        · rename_i _ h; simp at h; exact absurd h.1 h48
        · rfl
      rw [e]
      exact this
set_option maxHeartbeats 1000000 in
theorem Tryz.readNumber_any (s : ByteArray) (most : Int) (w : World) (hs : s.size ≤ maxLen) (hm0 : 0 ≤ most) (hm1 : most ≤ 4294967295) (he : Tryz.Err 23 w) (he2 : Tryz.Err 5 w) :
    Calls Tryz.prog 202 #[.string s, .int .u64 most] w fun e w' => NumRes (anyBase most s.data.toList) e ∧ ∃ n, w' = w.drewN n := by
  have HE : Hid (Tryz.Err 23 w) := he
  have HE2 : Hid (Tryz.Err 5 w) := he2
  clear he he2
  cases ho : anyBase most s.data.toList with
  | none =>
    have HO : Hid (anyBase most s.data.toList = none) := ho
    clear ho
    go_enter Tryz.func202, Tryz.ntmps202
    go_wp2_with fail
    refine (Tryz.readAnyBase_any s most _ hs hm0 hm1 HE.out HE2.out).mono ?_
    rw [HO.out]
    rintro e w1 ⟨⟨t, v, rfl⟩, nd, rfl⟩
    go_wp2
    go_ret2
    exact ⟨⟨_, _, rfl⟩, nd, rfl⟩
  | some n =>
    have HO : Hid (anyBase most s.data.toList = some n) := ho
    clear ho
    go_enter Tryz.func202, Tryz.ntmps202
    go_wp2_with fail
    refine (Tryz.readAnyBase_any s most _ hs hm0 hm1 HE.out HE2.out).mono ?_
    rw [HO.out]
    rintro e w1 ⟨rfl, nd, rfl⟩
    go_wp2
    go_ret2
    exact ⟨rfl, nd, rfl⟩
end Go.Proofs
namespace Go.Proofs
open Go.RowKit Go.Moor
theorem Tryz.split_any (s : ByteArray) (c : UInt8) (m : Int) (w : World) (hs : s.size < 4294967281) (hm : w.cell? ⟨16, 0, none⟩ = some (.int .i64 m)) :
    Calls Tryz.prog 132 #[.string s, .string ⟨#[c]⟩] w fun e w' => ∃ xs : List ByteArray, xs.map (·.data.toList) = splitOn c s.data.toList ∧ e = .returned (.slice (some ⟨w.heap.size, 0, none⟩) xs.length xs.length) ∧ w' = w.alloc (.cells (xs.map Value.string).toArray 9) := by
  refine (Tryz.strings_Split s ⟨#[c]⟩ m w hs hm (by show 1 ≤ 1; omega)).mono ?_
  rintro e w' ⟨rfl, rfl⟩
  refine ⟨Lib.splitB ⟨#[c]⟩ 0 (Lib.countB s ⟨#[c]⟩) s, ?_, ?_, rfl⟩
  · rw [Lib.splitB_data]
    show Lib.splitK [c] 0 (Lib.count s.data.toList [c]) s.data.toList = _
    rw [Lib.count_one]
    exact splitK_eq c _ _ rfl
  · rw [Lib.splitB_all _ (by show 1 ≤ 1; omega) 0 _ s rfl]
def Tryz.StrRow (w w' : World) (ls : List (List UInt8)) (v : Value) : Prop :=
  ∃ (xs : List ByteArray) (cap : Nat), xs.map (·.data.toList) = ls ∧ xs.length ≤ cap ∧ cap ≤ 4294967282 ∧ v = .slice (some ⟨w.heap.size, 0, none⟩) xs.length cap ∧ (∀ (j : Nat) x, xs[j]? = some x → w'.cell? ⟨w.heap.size, j, none⟩ = some (.string x)) ∧ w.heap.size < w'.heap.size
theorem row_cells (w : World) (xs : List ByteArray) (t : TypeId) : ∀ (j : Nat) x, xs[j]? = some x → (w.alloc (.cells (xs.map Value.string).toArray t)).cell? ⟨w.heap.size, j, none⟩ = some (.string x) := by
  intro j x h
  have e : (w.alloc (.cells (xs.map Value.string).toArray t)).heap[w.heap.size]? = some (.cells (xs.map Value.string).toArray t) := heap_alloc_new w _
  simp only [World.cell?, e]
  simp [h]
theorem labels_drop (xs : List ByteArray) (l : List UInt8) (x : ByteArray) (hx : xs.map (·.data.toList) = splitOn 46 l) (h1 : 1 < xs.length) (hl : xs[xs.length - 1]? = some x) (he : x.data.toList = []) : xs.dropLast.map (·.data.toList) = labels l := by
  unfold labels
  rw [← hx]
  have e1 : (xs.map (·.data.toList)).getLast? = some [] := by
    rw [List.getLast?_map, List.getLast?_eq_getElem?, hl]
    simp [he]
  rw [if_pos ⟨by simpa using h1, e1⟩, List.map_dropLast]
theorem labels_keep (xs : List ByteArray) (l : List UInt8) (hx : xs.map (·.data.toList) = splitOn 46 l) (h : ¬ 1 < xs.length ∨ ∃ x, xs[xs.length - 1]? = some x ∧ x.data.toList ≠ []) : xs.map (·.data.toList) = labels l := by
  unfold labels
  rw [← hx]
  rw [if_neg]
  rintro ⟨h1, h2⟩
  rcases h with h | ⟨x, hl, hn⟩
  · exact h (by simpa using h1)
  · rw [List.getLast?_map, List.getLast?_eq_getElem?, hl] at h2
    simp at h2
    exact hn (by simpa using h2)
set_option maxHeartbeats 1000000 in
theorem Tryz.splitLabels_any (s : ByteArray) (m : Int) (w : World) (hs : s.size < 4294967281) (hm : w.cell? ⟨16, 0, none⟩ = some (.int .i64 m)) :
    Calls Tryz.prog 201 #[.string s] w fun e w' => (∃ v, e = .returned v ∧ Tryz.StrRow w w' (labels s.data.toList) v) ∧ Below w.heap.size w w' := by
  have HM : Hid (w.cell? ⟨16, 0, none⟩ = some (.int .i64 m)) := hm
  clear hm
  go_enter Tryz.func201, Tryz.ntmps201
  go_wp2_with fail
  refine (Tryz.split_any s 46 m _ hs HM.out).mono ?_
  rintro e w1 ⟨xs, hxs, rfl, rfl⟩
  have hcl := row_cells w xs 9
  have hlen : xs.length ≤ s.size + 1 := by
    have := splitOn_len 46 s.data.toList
    rw [← hxs] at this
    simpa using this
  have hne : 1 ≤ xs.length := by
    have := splitOn_ne 46 s.data.toList
    rw [← hxs] at this
    cases xs with
    | nil => simp at this
    | cons a l => simp
  have HX : Hid (xs.map (·.data.toList) = splitOn 46 s.data.toList) := hxs
  clear hxs
  by_cases h1 : 1 < xs.length
  · obtain ⟨x, hx⟩ : ∃ x, xs[xs.length - 1]? = some x := ⟨xs[xs.length - 1]'(by omega), by simp⟩
    have hc := hcl (xs.length - 1) x hx
    have HC : Hid (∀ (j : Nat) x, xs[j]? = some x → (w.alloc (.cells (xs.map Value.string).toArray 9)).cell? ⟨w.heap.size, j, none⟩ = some (.string x)) := hcl
    have HXX : Hid (xs[xs.length - 1]? = some x) := hx
    clear hcl hx
    by_cases hem : x.toList.isEmpty = true
    · have hd : x.data.toList = [] := by rw [Lib.toList_data] at hem; simpa using hem
      have HD : Hid (xs.dropLast.map (·.data.toList) = labels s.data.toList) := labels_drop xs _ x HX.out h1 HXX.out hd
      clear hd
      go_wp2
      go_ret
      refine ⟨⟨_, rfl, xs.dropLast, xs.length, HD.out, by simp, by omega, by rw [List.length_dropLast]; rfl, ?_, by simp⟩, (Below.refl _ w).alloc (Nat.le_refl _) _⟩
      intro j y hj
      refine HC.out j y ?_
      rw [List.getElem?_dropLast] at hj
      split at hj
      · exact hj
      · simp at hj
    · have hem2 : x.toList.isEmpty = false := Bool.eq_false_iff.2 hem
      have HD : Hid (xs.map (·.data.toList) = labels s.data.toList) := labels_keep xs _ HX.out (Or.inr ⟨x, HXX.out, by rw [Lib.toList_data] at hem; simpa using hem⟩)
      clear hem
      go_wp2
      go_ret
      exact ⟨⟨_, rfl, xs, xs.length, HD.out, by omega, by omega, rfl, HC.out, by simp⟩, (Below.refl _ w).alloc (Nat.le_refl _) _⟩
  · have HD : Hid (xs.map (·.data.toList) = labels s.data.toList) := labels_keep xs _ HX.out (Or.inl h1)
    have h2 : xs.length ≤ 1 := by omega
    have HC : Hid (∀ (j : Nat) x, xs[j]? = some x → (w.alloc (.cells (xs.map Value.string).toArray 9)).cell? ⟨w.heap.size, j, none⟩ = some (.string x)) := hcl
    clear hcl h1
    go_wp2
    go_ret
    exact ⟨⟨_, rfl, xs, xs.length, HD.out, by omega, by omega, rfl, HC.out, by simp⟩, (Below.refl _ w).alloc (Nat.le_refl _) _⟩
set_option maxHeartbeats 1000000 in
theorem Tryz.isNumbersHost_any (s : ByteArray) (m : Int) (w : World) (hs : s.size < 4294967281) (hm : w.cell? ⟨16, 0, none⟩ = some (.int .i64 m)) :
    Calls Tryz.prog 144 #[.string s] w fun e w' => e = .returned (.bool (numLabel ((labels s.data.toList).getLastD []))) ∧ Below w.heap.size w w' := by
  have HM : Hid (w.cell? ⟨16, 0, none⟩ = some (.int .i64 m)) := hm
  clear hm
  go_enter Tryz.func144, Tryz.ntmps144
  go_wp2_with fail
  refine (Tryz.splitLabels_any s m _ hs HM.out).mono ?_
  rintro e w1 ⟨⟨v, rfl, xs, cap, hxs, hc1, hc2, rfl, hcl, hz1⟩, hb1⟩
  have hne : 1 ≤ xs.length := by
    have := labels_ne s.data.toList
    rw [← hxs] at this
    cases xs with
    | nil => simp at this
    | cons a l => simp
  obtain ⟨x, hx⟩ : ∃ x, xs[xs.length - 1]? = some x := ⟨xs[xs.length - 1]'(by omega), by simp⟩
  have hc := hcl (xs.length - 1) x hx
  have HL : Hid ((labels s.data.toList).getLastD [] = x.data.toList) := by
    show _ = _
    rw [← hxs, List.getLastD_eq_getLast?, List.getLast?_map, List.getLast?_eq_getElem?, hx]
    rfl
  have hxl : x.size ≤ s.size := by
    have := labels_mem s.data.toList x.data.toList (by rw [← hxs]; exact List.mem_map.2 ⟨x, List.mem_of_getElem? hx, rfl⟩)
    simpa using this
  have hxm : x.size ≤ maxLen := by unfold maxLen; omega
  have hzz : w.heap.size + 0 < w1.heap.size := hz1
  clear hcl hx hxs hz1
  by_cases hpf : Lib.hasPrefix x.data.toList (⟨#[48, 120]⟩ : ByteArray).data.toList = true
  · have h2 : 2 ≤ x.size := by
      unfold Lib.hasPrefix at hpf
      have := (List.isPrefixOf_iff_prefix.1 hpf).length_le
      simpa using this
    have HP : Hid (Lib.hasPrefix x.data.toList (⟨#[48, 120]⟩ : ByteArray).data.toList = true) := hpf
    have hxs : (x.extract 2 x.size).size ≤ maxLen := by rw [ByteArray.size_extract]; unfold maxLen; omega
    have HX2 : Hid ((x.extract 2 x.size).data.toList = x.data.toList.drop 2) := ext_drop x 2
    clear hpf
    go_wp2_with (go_at_call 82; refine (Tryz.prefix_yes _ _ _ HP.out).mono ?_; rintro e w' ⟨rfl, rfl⟩)
    refine (Tryz.all_any (x.extract 2 x.size) 16 _ hxs).mono ?_
    rw [HX2.out]
    rintro e w2 ⟨rfl, rfl⟩
    go_wp2
    go_ret
    have hp2 := HP.out
    refine ⟨?_, hb1⟩
    rw [HL.out]
    unfold numLabel
    rw [if_pos (show Lib.hasPrefix x.data.toList [48, 120] = true from hp2)]
    rfl
  · have hpn : Lib.hasPrefix x.data.toList (⟨#[48, 120]⟩ : ByteArray).data.toList = false := Bool.eq_false_iff.2 hpf
    have HP : Hid (Lib.hasPrefix x.data.toList (⟨#[48, 120]⟩ : ByteArray).data.toList = false) := hpn
    clear hpf hpn
    by_cases hem : x.toList.isEmpty = true
    · go_wp2_with (go_at_call 82; refine (Tryz.prefix_no _ _ _ HP.out).mono ?_; rintro e w' ⟨rfl, rfl⟩)
      go_ret
      refine ⟨?_, hb1⟩
      rw [HL.out]
      unfold numLabel
      rw [if_neg (by rw [show Lib.hasPrefix x.data.toList [48, 120] = false from HP.out]; simp), ← Lib.toList_data, hem]
      rfl
    · have hem2 : x.toList.isEmpty = false := Bool.eq_false_iff.2 hem
      clear hem
      go_wp2_with (go_at_call 82; refine (Tryz.prefix_no _ _ _ HP.out).mono ?_; rintro e w' ⟨rfl, rfl⟩)
      refine (Tryz.all_any x 10 _ hxm).mono ?_
      rintro e w2 ⟨rfl, rfl⟩
      go_wp2
      go_ret
      refine ⟨?_, hb1⟩
      rw [HL.out]
      unfold numLabel
      rw [if_neg (by rw [show Lib.hasPrefix x.data.toList [48, 120] = false from HP.out]; simp), ← Lib.toList_data, hem2, Lib.toList_data]
      rfl
end Go.Proofs
