import Derived.Test.YtkcnageeamappaaGreatDoorXQ7
import Derived.Test.YtkcnageeamappaaGreatDoorXHMarks
import Derived.Test.YtkcnageeamappaaGreatDoorXQ4
namespace Go.Proofs
open Go.RowKit Go.Moor
theorem dotAcc_none (x : List UInt8) (hx : plainDec x = none) : ∀ (ls : List (List UInt8)) (a : Int), x ∈ ls → dotAcc a ls = none
  | [], _, h => by cases h
  | y :: ls, a, h => by
    unfold dotAcc
    cases hy : plainDec y with
    | none => rfl
    | some n =>
      rcases List.mem_cons.1 h with rfl | h
      · rw [hx] at hy; cases hy
      · exact dotAcc_none x hx ls _ h
theorem digAcc10_step (v : Int) (l : List UInt8) (k : Nat) (h : k < l.length) : digAcc 10 255 v (l.drop k) = if hexVal l[k].toNat < 10 then (if v * 10 + hexVal l[k].toNat ≤ 255 then digAcc 10 255 (v * 10 + hexVal l[k].toNat) (l.drop (k + 1)) else none) else none := by
  rw [List.drop_eq_getElem_cons h]
  rfl
theorem dig_val (c : UInt8) (h : refDigit c = true) : hexVal c.toNat = (c.toNat : Int) - 48 ∧ hexVal c.toNat < 10 ∧ 48 ≤ (c.toNat : Int) ∧ (c.toNat : Int) ≤ 57 := by
  unfold refDigit at h
  rw [decide_eq_true_eq] at h
  unfold hexVal
  rw [if_pos (by omega)]
  omega
theorem dig_not (c : UInt8) (h : refDigit c = false) : ¬ hexVal c.toNat < 10 := by
  have := dig_is c
  rw [h] at this
  simpa using this
def LastRes (o : Option Int) (e : Ending) : Prop :=
  match o with
  | some n => e = .returned (.tuple #[.int .i64 n, .bool true])
  | none => ∃ m : Int, e = .returned (.tuple #[.int .i64 m, .bool false])
set_option maxHeartbeats 16000000 in
set_option maxRecDepth 4000 in
theorem Tryz.rlast_any (s : ByteArray) (w : World) (hs : s.size ≤ 4000) :
    Calls Tryz.prog 171 #[.string s] w fun e w' => LastRes (sixDotted s.data.toList) e ∧ Below w.heap.size w w' := by
  have HSP : Hid (Calls Tryz.prog 78 #[.string s, .int .u8 46] w fun e w' => (∃ v, e = .returned v ∧ w'.ownsRow w.heap.size 9 1 v (splitOn 46 s.data.toList).length (strs (splitOn 46 s.data.toList))) ∧ Below w.heap.size w w') := Tryz.rsplit_any s 46 w (by omega)
  have HDI : Hid (∀ (c : UInt8) w1, Calls Tryz.prog 173 #[.int .u8 c.toNat] w1 fun e w' => e = .returned (.bool (refDigit c)) ∧ w' = w1) := fun c w1 => Tryz.rdigit_any c w1
  have HLB : Hid (∀ x ∈ splitOn 46 s.data.toList, x.length ≤ 4000) := fun x hx => by
    have := splitOn_mem 46 s.data.toList x hx
    rw [Array.length_toList] at this
    exact Nat.le_trans this hs
  have HLC : Hid ((splitOn 46 s.data.toList).length ≤ 4001) := by
    have := splitOn_count 46 s.data.toList
    rw [Array.length_toList] at this
    exact Nat.le_trans this (by show s.size + 1 ≤ _; omega)
  unfold sixDotted
  generalize splitOn 46 s.data.toList = ls at *
  have HRN : Hid (∀ x ∈ ls, plainDec x = none → (if ls.length = 4 then dotAcc 0 ls else none) = none) := by
    intro x hx h
    split
    · exact dotAcc_none x h ls 0 hx
    · rfl
  suffices key : ∀ res : Option Int, Hid (∀ x ∈ ls, plainDec x = none → res = none) → Hid (¬ ls.length = 4 → res = none) → Hid (ls.length = 4 → res = dotAcc 0 ls) → Calls Tryz.prog 171 #[.string s] w fun e w' => LastRes res e ∧ Below w.heap.size w w' from key _ HRN.out (fun h => if_neg h) (fun h => if_pos h)
  intro res HN1 HN2 HN3
  clear HRN
  go_enter Tryz.func171, Tryz.ntmps171
  go_wp2_with fail
  refine HSP.out.mono ?_
  rintro e w1 ⟨⟨v, rfl, ho⟩, b1⟩
  obtain ⟨sp, cap, hv, hnc, hcm, hrow⟩ := own_shape ho
  subst hv
  have HB1 : Hid (Below w.heap.size w w1) := b1
  have hlc := HLC.out
  have HROW : Hid (∀ (j : Nat) x, ls[j]? = some x → ∃ g, sp = some ⟨g, 0, none⟩ ∧ w1.cell? ⟨g, j, none⟩ = some (.string ⟨x.toArray⟩)) := by
    intro j x hj
    have hlt := (List.getElem?_eq_some_iff.1 hj).1
    obtain ⟨g, hg, hc⟩ := hrow (by omega)
    exact ⟨g, hg, hc j _ (by unfold strs; rw [List.getElem?_map, hj]; rfl)⟩
  clear b1 ho hrow
  go_wp2_with fail
  go_loopw [5, 6] (fun a i wr => ∃ (q : Nat) (x : Int), q ≤ ls.length ∧ i = .int .i64 q ∧ a = .int .i64 x ∧ (q ≤ 4 → dotAcc x (ls.drop q) = dotAcc 0 ls ∧ 0 ≤ x ∧ x < 256 ^ q) ∧ wr = w1) (fun _ i _ => ls.length - (intOf i).toNat)
  case atStart => exact ⟨0, 0, Nat.zero_le _, rfl, rfl, fun _ => ⟨rfl, by omega, by decide⟩, rfl⟩
  case round =>
    obtain ⟨q, x, hq, rfl, rfl, hacc, hwr⟩ := hrel
    have hwr := hwr.symm
    subst hwr
    have HACC : Hid (q ≤ 4 → dotAcc x (ls.drop q) = dotAcc 0 ls ∧ 0 ≤ x ∧ x < 256 ^ q) := hacc
    clear hacc
    by_cases hlt : q < ls.length
    · obtain ⟨p, hp⟩ : ∃ p, ls[q]? = some p := ⟨ls[q], List.getElem?_eq_getElem hlt⟩
      obtain ⟨g, hsp, cp⟩ := HROW.out q p hp
      subst hsp
      have HPM : Hid (p ∈ ls) := List.mem_of_getElem? hp
      have hpl := HLB.out p HPM.out
      have HSTEP : Hid (∀ n : Int, plainDec p = some n → dotAcc x (ls.drop q) = dotAcc (x * 256 + n) (ls.drop (q + 1))) := by
        intro n hn
        obtain ⟨h1, h2⟩ := List.getElem?_eq_some_iff.1 hp
        rw [List.drop_eq_getElem_cons h1, h2]
        unfold dotAcc
        rw [hn]
        cases ls.drop (q + 1) <;> rfl
      obtain ⟨pb, hpb⟩ : ∃ pb : ByteArray, pb = ⟨p.toArray⟩ := ⟨_, rfl⟩
      rw [← hpb] at cp
      have hpz : pb.size = p.length := by rw [hpb]; exact size_mk p
      have HPG : Hid (∀ (k : Nat) (h : k < pb.size) (h2 : k < p.length), p[k] = pb[k]) := by
        intro k h h2
        subst hpb
        rfl
      have hpe : pb.toList.isEmpty = p.isEmpty := by rw [hpb, Lib.toList_data]
      clear hp hpb
      go_wp2_with fail
      go_loopw [7, 8] (fun a i wr => ∃ (k : Nat) (v : Int), k ≤ pb.size ∧ i = .int .i64 k ∧ a = .int .i64 v ∧ 0 ≤ v ∧ v ≤ 255 ∧ digAcc 10 255 v (p.drop k) = digAcc 10 255 0 p ∧ (2 ≤ k → ¬ p.head? = some 48) ∧ wr = w1) (fun _ i _ => pb.size - (intOf i).toNat)
      case atStart => exact ⟨0, 0, Nat.zero_le _, rfl, rfl, by omega, by omega, rfl, fun h => by omega, rfl⟩
      case round =>
        obtain ⟨k, v, hk, rfl, rfl, hv0, hv1, hdig, hhead, hwr⟩ := hrel
        have hwr := hwr.symm
        subst hwr
        have HDG : Hid (digAcc 10 255 v (p.drop k) = digAcc 10 255 0 p) := hdig
        have HHE : Hid (2 ≤ k → ¬ p.head? = some 48) := hhead
        clear hdig hhead
        by_cases hkl : k < pb.size
        · have h2 : k < p.length := by omega
          have hg := HPG.out k hkl h2
          have HD : Hid _ := HDI.out pb[k] w1
          have hst := digAcc10_step v p k h2
          rw [hg] at hst
          have HST : Hid _ := hst
          have HPD : Hid (digAcc 10 255 0 p = none → plainDec p = none) := by
            intro h
            unfold plainDec
            split
            · rfl
            · split
              · rfl
              · exact h
          clear hst hg
          cases hd : refDigit pb[k] with
          | false =>
            have HRES : Hid (res = none) := HN1.out p HPM.out (HPD.out (by rw [← HDG.out, HST.out, if_neg (dig_not _ hd)]))
            rw [hd] at HD
            clear hd
            go_wp2_with fail
            refine Calls.mono HD.out ?_
            rintro e W0 ⟨rfl, hw0⟩
            have hw0 := hw0.symm
            subst hw0
            go_wp2
            go_ret2
            rw [HRES.out]
            exact ⟨⟨_, rfl⟩, HB1.out⟩
          | true =>
            obtain ⟨e1, e2, e3, e4⟩ := dig_val _ hd
            rw [hd] at HD
            have hsub : IntKind.u8.wrap ((pb[k].toNat : Int) - 48) = (pb[k].toNat : Int) - 48 := by
              simp only [IntKind.wrap, IntKind.bits, IntKind.signed]
              simp
              omega
            have hk0 : (0 : Int) ≤ (k : Int) := by omega
            have HH0 : Hid (∀ h : 0 < pb.size, p.head? = some pb[0]) := by
              intro h
              have h3 : 0 < p.length := by omega
              have := HPG.out 0 h h3
              rw [List.head?_eq_getElem?, List.getElem?_eq_getElem h3, this]
            by_cases hA : k = 1 ∧ p.head? = some 48
            · obtain ⟨hk1, hh⟩ := hA
              have HRES : Hid (res = none) := HN1.out p HPM.out (by
                unfold plainDec
                split
                · rfl
                · rw [if_pos ⟨hh, by omega⟩])
              have h0 : 0 < pb.size := by omega
              have hp0 := HH0.out h0
              rw [hh] at hp0
              have hp00 : pb[0] = 48 := (Option.some.inj hp0).symm
              have hpb0 : ((pb[0].toNat : Int) == 48) = true := by rw [hp00]; rfl
              subst hk1
              clear hd e1 e2 e3 e4 hsub hp0 hp00 hh
              go_wp2_with fail
              refine Calls.mono HD.out ?_
              rintro e W0 ⟨rfl, hw0⟩
              have hw0 := hw0.symm
              subst hw0
              go_wp2
              go_ret2
              rw [HRES.out]
              exact ⟨⟨_, rfl⟩, HB1.out⟩
            · have hB : ((k : Int) == 1) = false ∨ (((k : Int) == 1) = true ∧ ∃ h0 : 0 < pb.size, ((pb[0].toNat : Int) == 48) = false) := by
                by_cases h1 : k = 1
                · right
                  have h0 : 0 < pb.size := by omega
                  refine ⟨by rw [h1]; rfl, h0, ?_⟩
                  rw [beq_eq_false_iff_ne]
                  intro h
                  exact hA ⟨h1, by rw [HH0.out h0]; exact congrArg some (UInt8.toNat_inj.1 (by show pb[0].toNat = 48; omega))⟩
                · left
                  rw [beq_eq_false_iff_ne]
                  omega
              have HHN : Hid (2 ≤ k + 1 → ¬ p.head? = some 48) := by
                intro h3 h4
                by_cases h1 : k = 1
                · exact hA ⟨h1, h4⟩
                · exact HHE.out (by omega) h4
              have hst := HST.out
              rw [if_pos e2, e1] at hst
              obtain ⟨n, hn⟩ : ∃ n : Int, n = (pb[k].toNat : Int) - 48 := ⟨_, rfl⟩
              rw [← hn] at hst hsub
              have hn0 : 0 ≤ n ∧ n ≤ 9 := by omega
              obtain ⟨hna, hnb⟩ := hn0
              have hnn : (pb[k].toNat : Int) - 48 = n := hn.symm
              have hw1 : wrap64 (10 * v) = 10 * v := by unfold wrap64; omega
              have hw2 : wrap64 (10 * v + n) = 10 * v + n := by unfold wrap64; omega
              clear hd e1 e2 hn HST hA HH0 HHE
              by_cases hbig : 10 * v + n ≤ 255
              · rw [if_pos (by omega)] at hst
                have HDN : Hid (digAcc 10 255 (10 * v + n) (p.drop (k + 1)) = digAcc 10 255 0 p) := by
                  show _ = _
                  rw [← HDG.out, hst, show v * 10 + n = 10 * v + n by omega]
                clear hst
                rcases hB with hB | ⟨hB, h0, hB2⟩
                all_goals
                  go_wp2_with fail
                  refine Calls.mono HD.out ?_
                  rintro e W0 ⟨rfl, hw0⟩
                  have hw0 := hw0.symm
                  subst hw0
                  go_wp2
                  go_roundw
                  case rel => exact ⟨k + 1, 10 * v + n, by omega, by go_num, by go_num, by omega, by omega, HDN.out, HHN.out, trivial⟩
                  case measure => (simp [intOf]; try omega)
              · rw [if_neg (by omega)] at hst
                have HRES : Hid (res = none) := HN1.out p HPM.out (HPD.out (by rw [← HDG.out, hst]))
                clear hst
                rcases hB with hB | ⟨hB, h0, hB2⟩
                all_goals
                  go_wp2_with fail
                  refine Calls.mono HD.out ?_
                  rintro e W0 ⟨rfl, hw0⟩
                  have hw0 := hw0.symm
                  subst hw0
                  go_wp2
                  go_ret2
                  rw [HRES.out]
                  exact ⟨⟨_, rfl⟩, HB1.out⟩
        · by_cases hpn : p = []
          · have HRES : Hid (res = none) := HN1.out p HPM.out (by rw [hpn]; rfl)
            have hpe2 : pb.toList.isEmpty = true := by rw [hpe, hpn]; rfl
            clear hpe hpn
            go_wp2
            go_ret2
            rw [HRES.out]
            exact ⟨⟨_, rfl⟩, HB1.out⟩
          · have hpe2 : pb.toList.isEmpty = false := by
              rw [hpe]
              cases p with
              | nil => exact absurd rfl hpn
              | cons => rfl
            have HPD : Hid (plainDec p = some v) := by
              show _ = _
              have h := HDG.out
              rw [List.drop_eq_nil_of_le (by omega)] at h
              unfold plainDec
              rw [if_neg hpn, if_neg (fun h2 => HHE.out (by omega) h2.1), ← h]
              rfl
            clear hpe
            go_wp2
            go_roundw
            case rel =>
              refine ⟨q + 1, _, by omega, by go_num, rfl, fun h4 => ?_, trivial⟩
              obtain ⟨a1, a2, a3⟩ := HACC.out (by omega)
              have a4 : x < 16777216 := Int.lt_of_lt_of_le a3 (by
                have : (256 : Int) ^ q ≤ 256 ^ 3 := by
                  have h5 : q = 0 ∨ q = 1 ∨ q = 2 ∨ q = 3 := by omega
                  rcases h5 with rfl | rfl | rfl | rfl <;> decide
                exact this)
              have e : wrap64 (wrap64 (256 * x) + v) = x * 256 + v := by unfold wrap64; omega
              rw [e]
              refine ⟨by rw [← a1, HSTEP.out v HPD.out], by omega, ?_⟩
              rw [Int.pow_succ]
              omega
            case measure => (simp [intOf]; try omega)
    · have hqe : q = ls.length := by omega
      subst hqe
      by_cases h4 : ls.length = 4
      · obtain ⟨a1, a2, a3⟩ := HACC.out (by omega)
        have HRES : Hid (res = some x) := by
          show _ = _
          rw [HN3.out h4, ← a1, List.drop_eq_nil_of_le (Nat.le_refl _)]
          rfl
        have hl4 : ((ls.length : Int) == 4) = true := by rw [h4]; rfl
        clear a1 a2 a3
        go_wp2
        go_ret2
        rw [HRES.out]
        exact ⟨by first | rfl | (show _ = _; simp [h4]), HB1.out⟩
      · have HRES : Hid (res = none) := HN2.out h4
        have hl4 : ((ls.length : Int) == 4) = false := by rw [beq_eq_false_iff_ne]; omega
        go_wp2
        go_ret2
        rw [HRES.out]
        exact ⟨⟨x, by first | rfl | simp [h4]⟩, HB1.out⟩
end Go.Proofs
namespace Go.Proofs
open Go.RowKit Go.Moor
set_option maxHeartbeats 2000000 in
theorem Tryz.rsixteen_any : ∀ (k n : Nat) (w : World), k ≤ 40 → n < 16 ^ (k + 1) → n < 4294967296 →
    Calls Tryz.prog 172 #[.int .i64 n] w fun e w' => e = .returned (.string ⟨(digsF 16 k n).toArray⟩) ∧ ∃ nd, w' = w.drewN nd
  | k, n, w, hk40, hn, hn2 => by
    by_cases h : n < 16
    · have HE : Hid (lowHex.extract n (n + 1) = ⟨[hexL n].toArray⟩) := low_at n (by omega)
      have HD : Hid (digsF 16 k n = [hexL n]) := by
        show _ = _
        cases k with
        | zero => rfl
        | succ k => unfold digsF; rw [if_pos h]
      rw [HD.out]
      clear hn
      go_enter Tryz.func172, Tryz.ntmps172
      go_wp2
      go_ret
      refine ⟨?_, 0, rfl⟩
      show Ending.returned (.string (lowHex.extract n (n + 1))) = _
      rw [HE.out]
    · match k, hk40, hn with
      | 0, _, hn => exact absurd (by simpa using hn) h
      | k + 1, hk40, hn =>
        have hq : n / 16 < 16 ^ (k + 1) := by
          rw [Nat.div_lt_iff_lt_mul (by omega)]
          rwa [Nat.pow_succ] at hn
        have IH : Hid (∀ w, Calls Tryz.prog 172 #[.int .i64 ((n : Int) / 16)] w fun e w' => e = .returned (.string ⟨(digsF 16 k (n / 16)).toArray⟩) ∧ ∃ nd, w' = w.drewN nd) := fun w => by
          have := Tryz.rsixteen_any k (n / 16) w (by omega) hq (by omega)
          rw [show ((n / 16 : Nat) : Int) = (n : Int) / 16 by omega] at this
          exact this
        have HE : Hid (lowHex.extract (n % 16) (n % 16 + 1) = ⟨[hexL (n % 16)].toArray⟩) := low_at (n % 16) (by omega)
        have HD : Hid (digsF 16 (k + 1) n = digsF 16 k (n / 16) ++ [hexL (n % 16)]) := by
          show _ = _
          rw [digsF, if_neg h]
        rw [HD.out]
        have hw1 : IntKind.i64.wrap ((n : Int) / 16) = (n : Int) / 16 := wrap_i64 _ (by omega) (by omega)
        have hw2 : (n : Int).tmod 16 = (n : Int) % 16 := Int.tmod_eq_emod_of_nonneg (by omega)
        have hw3 : IntKind.i64.wrap ((n : Int) % 16 + 1) = (n : Int) % 16 + 1 := wrap_i64 _ (by omega) (by omega)
        have hsl : ∀ W, (Instr.slice 9 (.string ⟨#[48, 49, 50, 51, 52, 53, 54, 55, 56, 57, 97, 98, 99, 100, 101, 102]⟩) (some (.int .i64 ((n : Int) % 16))) (some (.int .i64 ((n : Int) % 16 + 1))) none).run Tryz.prog W = .ok (.string ⟨#[hexL (n % 16)]⟩) W := fun W => by
          rw [run_slice_string W 9 _ .i64 .i64 _ _ Tryz.underlying9 (by omega) (by omega) (show (n : Int) % 16 + 1 ≤ ((16 : Nat) : Int) by omega), show ((n : Int) % 16).toNat = n % 16 by omega, show ((n : Int) % 16 + 1).toNat = n % 16 + 1 by omega]
          exact congrArg (fun x => Result.ok (Value.string x) W) HE.out
        have hdl : (digsF 16 k (n / 16)).length ≤ 41 := by have := digs_len 16 k (n / 16); omega
        clear hn  hq
        go_enter Tryz.func172, Tryz.ntmps172
        go_wp2_with fail
        go_region_with (go_at_call 172; refine (IH.out _).mono ?_; rintro e w' ⟨rfl, nd, rfl⟩)
        all_goals
          go_wp2
          go_ret
          refine ⟨?_, _, rfl⟩
          show Ending.returned (.string (⟨(digsF 16 k (n / 16)).toArray⟩ ++ ⟨[hexL (n % 16)].toArray⟩)) = _
          rw [app_mk]
theorem same_heapQ {k : Nat} {w w' : World} (ho : w'.os = w.os) (ht : w'.tape = w.tape) (hu : w'.output = w.output) (hh : w'.heap = w.heap) : Below k w w' := ⟨ho, ht, hu, by rw [hh]; exact Nat.le_refl _, fun _ _ => by rw [hh]⟩
theorem dig10 (n : Nat) (h : n < 10) : ((hexL n).toNat : Int) = 48 + (n : Int) := by
  have : ∀ k : Fin 10, ((hexL k.val).toNat : Int) = 48 + (k.val : Int) := by decide +kernel
  exact this ⟨n, h⟩
set_option maxHeartbeats 4000000 in
set_option maxRecDepth 8000 in
theorem Tryz.rdecimal_any : ∀ (k n : Nat) (w : World), k ≤ 40 → n < 10 ^ (k + 1) → n < 4294967296 →
    Calls Tryz.prog 128 #[.int .i64 n] w fun e w' => e = .returned (.string ⟨(digsF 10 k n).toArray⟩) ∧ Below w.heap.size w w'
  | k, n, w, hk40, hn, hn2 => by
    by_cases h : n < 10
    · have hcv := Tryz.one_text (hexL n) (48 + (n : Int)) (dig10 n h) w
      have HD : Hid (digsF 10 k n = [hexL n]) := by
        show _ = _
        cases k with
        | zero => rfl
        | succ k => unfold digsF; rw [if_pos h]
      rw [HD.out]
      have hi : (n : Int) < 10 := by omega
      generalize hexL n = x at *
      clear hn
      go_enter Tryz.func128, Tryz.ntmps128
      go_wp2
      go_ret
      exact ⟨rfl, (Below.refl _ _).alloc (Nat.le_refl _) _⟩
    · match k, hk40, hn with
      | 0, _, hn => exact absurd (by simpa using hn) h
      | k + 1, hk40, hn =>
        have hq : n / 10 < 10 ^ (k + 1) := by
          rw [Nat.div_lt_iff_lt_mul (by omega)]
          rwa [Nat.pow_succ] at hn
        have IH : Hid (∀ w, Calls Tryz.prog 128 #[.int .i64 ((n : Int) / 10)] w fun e w' => e = .returned (.string ⟨(digsF 10 k (n / 10)).toArray⟩) ∧ Below w.heap.size w w') := fun w => by
          have := Tryz.rdecimal_any k (n / 10) w (by omega) hq (by omega)
          rw [show ((n / 10 : Nat) : Int) = (n : Int) / 10 by omega] at this
          exact this
        have HD : Hid (digsF 10 (k + 1) n = digsF 10 k (n / 10) ++ [hexL (n % 10)]) := by
          show _ = _
          rw [digsF, if_neg h]
        rw [HD.out]
        have hw1 : IntKind.i64.wrap ((n : Int) / 10) = (n : Int) / 10 := wrap_i64 _ (by omega) (by omega)
        have hw2 : (n : Int).tmod 10 = (n : Int) % 10 := Int.tmod_eq_emod_of_nonneg (by omega)
        have hw3 : IntKind.i64.wrap (48 + (n : Int) % 10) = 48 + (n : Int) % 10 := wrap_i64 _ (by omega) (by omega)
        have hw4 : IntKind.u8.wrap (48 + (n : Int) % 10) = 48 + (n : Int) % 10 := by
          simp only [IntKind.wrap, IntKind.bits, IntKind.signed]
          simp
          omega
        have hd := dig10 (n % 10) (by omega)
        have hd2 : ((hexL (n % 10)).toNat : Int) = 48 + (n : Int) % 10 := by rw [hd]; omega
        have hcv : ∀ (W : World) (g : Nat), W.cell? ⟨g, 0, none⟩ = some (.int .u8 (48 + (n : Int) % 10)) → (convert 47 9 (.slice (some ⟨g, 0, none⟩) 1 1)).run Tryz.prog W = .ok (.string ⟨#[hexL (n % 10)]⟩) W := by
          intro W g hc
          exact run_convert_bytes_back W 47 9 5 ⟨g, 0, none⟩ 1 [hexL (n % 10)] Tryz.underlying47 Tryz.underlying5 Tryz.underlying9 (fun i hi => by
            match i, hi with
            | 0, _ =>
              refine hc.trans ?_
              show some (Value.int .u8 (48 + (n : Int) % 10)) = some (Value.int .u8 ((hexL (n % 10)).toNat : Int))
              rw [hd2])
        have hdl : (digsF 10 k (n / 10)).length ≤ 41 := by have := digs_len 10 k (n / 10); omega
        clear hn hq hd hd2
        go_enter Tryz.func128, Tryz.ntmps128
        go_wp2_with fail
        go_region_with (go_at_call 128; refine (IH.out _).mono ?_; rintro e w1 ⟨rfl, b1⟩; first | (have hcc : w1.cell? ⟨w.heap.size, 0, none⟩ = some (.int .u8 (48 + (n : Int) % 10)) := (b1.cell (p := ⟨w.heap.size, 0, none⟩) (by simp)).trans (World.cell?_alloc_new _ #[.int .u8 (48 + (n : Int) % 10)] 5 0)) | skip)
        all_goals
          go_wp2
          go_ret
          refine ⟨?_, ?_⟩
          · show Ending.returned (.string (⟨(digsF 10 k (n / 10)).toArray⟩ ++ ⟨[hexL (n % 10)].toArray⟩)) = _
            rw [app_mk]
          · first
              | exact ((same_heapQ rfl rfl rfl rfl : Below w.heap.size w w.drew).trans b1).alloc b1.size _
              | exact ((same_heapQ rfl rfl rfl rfl : Below w.heap.size w w.drew).alloc (Nat.le_refl _) _).trans (b1.mono (by simp))
              | exact ((same_heapQ rfl rfl rfl rfl : Below w.heap.size w w.drew).alloc (Nat.le_refl _) _).trans (b1.mono (Nat.le_succ _))
end Go.Proofs
