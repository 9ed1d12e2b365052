/-
  What last of package moorref answers: four decimal numbers.
-/
import Derived.Test.YtkcnageeamappaaGreatDoorJQ7
import Derived.Test.YtkcnageeamappaaGreatDoorJSPlain
import Derived.Test.YtkcnageeamappaaGreatDoorJQ2
import Derived.Test.YtkcnageeamappaaGreatDoorJAOpt
import Derived.Deep.CutRange
namespace Go.Proofs
open Go.RowKit Go.Moor

theorem dotAcc_none (x : List UInt8) (hx : plainDec x = none) : ∀ (ls : List (List UInt8)) (a : Int), x ∈ ls → dotAcc a ls = none
  | [], _, h => by cases h
  | y :: ls, a, h => by
    unfold dotAcc
    cases hy : plainDec y with
    | none => rfl
    | some n =>
      rcases List.mem_cons.1 h with rfl | h
      · rw [hx] at hy; cases hy
      · exact dotAcc_none x hx ls _ h
theorem digAcc10_step (v : Int) (l : List UInt8) (k : Nat) (h : k < l.length) : digAcc 10 255 v (l.drop k) = if hexVal l[k].toNat < 10 then (if v * 10 + hexVal l[k].toNat ≤ 255 then digAcc 10 255 (v * 10 + hexVal l[k].toNat) (l.drop (k + 1)) else none) else none := by
  rw [List.drop_eq_getElem_cons h]
  rfl
theorem dig_val (c : UInt8) (h : refDigit c = true) : hexVal c.toNat = (c.toNat : Int) - 48 ∧ hexVal c.toNat < 10 ∧ 48 ≤ (c.toNat : Int) ∧ (c.toNat : Int) ≤ 57 := by
  unfold refDigit at h
  rw [decide_eq_true_eq] at h
  unfold hexVal
  rw [if_pos (by omega)]
  omega
theorem dig_not (c : UInt8) (h : refDigit c = false) : ¬ hexVal c.toNat < 10 := by
  have := dig_is c
  rw [h] at this
  simpa using this

/-- What is told of four numbers with dots: the number, and whether it is one. -/
def LastRes (o : Option Int) (e : Ending) : Prop :=
  match o with
  | some n => e = .returned (.tuple #[.int .i64 n, .bool true])
  | none => ∃ m : Int, e = .returned (.tuple #[.int .i64 m, .bool false])

set_option maxHeartbeats 16000000 in
set_option maxRecDepth 4000 in
theorem Tryz.rlast_any (s : ByteArray) (w : World) (hs : s.size ≤ 4000) :
    Calls Tryz.prog 171 #[.string s] w fun e w' => LastRes (sixDotted s.data.toList) e ∧ Below w.heap.size w w' := by
  have HSP : Hid (Calls Tryz.prog 78 #[.string s, .int .u8 46] w fun e w' => (∃ v, e = .returned v ∧ w'.ownsRow w.heap.size 9 1 v (splitOn 46 s.data.toList).length (strs (splitOn 46 s.data.toList))) ∧ Below w.heap.size w w') := Tryz.rsplit_any s 46 w (by omega)
  have HDI : Hid (∀ (c : UInt8) w1, Calls Tryz.prog 173 #[.int .u8 c.toNat] w1 fun e w' => e = .returned (.bool (refDigit c)) ∧ w' = w1) := fun c w1 => Tryz.rdigit_any c w1
  have HLB : Hid (∀ x ∈ splitOn 46 s.data.toList, x.length ≤ 4000) := fun x hx => by
    have := splitOn_mem 46 s.data.toList x hx
    rw [Array.length_toList] at this
    exact Nat.le_trans this hs
  have HLC : Hid ((splitOn 46 s.data.toList).length ≤ 4001) := by
    have := splitOn_count 46 s.data.toList
    rw [Array.length_toList] at this
    exact Nat.le_trans this (by show s.size + 1 ≤ _; omega)
  unfold sixDotted
  generalize splitOn 46 s.data.toList = ls at *
  have HRN : Hid (∀ x ∈ ls, plainDec x = none → (if ls.length = 4 then dotAcc 0 ls else none) = none) := by
    intro x hx h
    split
    · exact dotAcc_none x h ls 0 hx
    · rfl
  suffices key : ∀ res : Option Int, Hid (∀ x ∈ ls, plainDec x = none → res = none) → Hid (¬ ls.length = 4 → res = none) → Hid (ls.length = 4 → res = dotAcc 0 ls) → Calls Tryz.prog 171 #[.string s] w fun e w' => LastRes res e ∧ Below w.heap.size w w' from key _ HRN.out (fun h => if_neg h) (fun h => if_pos h)
  intro res HN1 HN2 HN3
  clear HRN
  go_enter Tryz.func171, Tryz.ntmps171
  go_wp2_with fail
  refine HSP.out.mono ?_
  rintro e w1 ⟨⟨v, rfl, ho⟩, b1⟩
  obtain ⟨sp, cap, hv, hnc, hcm, hrow⟩ := own_shape ho
  subst hv
  have HB1 : Hid (Below w.heap.size w w1) := b1
  have hlc := HLC.out
  have HROW : Hid (∀ (j : Nat) x, ls[j]? = some x → ∃ g, sp = some ⟨g, 0, none⟩ ∧ w1.cell? ⟨g, j, none⟩ = some (.string ⟨x.toArray⟩)) := by
    intro j x hj
    have hlt := (List.getElem?_eq_some_iff.1 hj).1
    obtain ⟨g, hg, hc⟩ := hrow (by omega)
    exact ⟨g, hg, hc j _ (by unfold strs; rw [List.getElem?_map, hj]; rfl)⟩
  clear b1 ho hrow
  go_wp2_with fail
  go_loopw [5, 6] (fun a i wr => ∃ (q : Nat) (x : Int), q ≤ ls.length ∧ i = .int .i64 q ∧ a = .int .i64 x ∧ (q ≤ 4 → dotAcc x (ls.drop q) = dotAcc 0 ls ∧ 0 ≤ x ∧ x < 256 ^ q) ∧ wr = w1) (fun _ i _ => ls.length - (intOf i).toNat)
  case atStart => exact ⟨0, 0, Nat.zero_le _, rfl, rfl, fun _ => ⟨rfl, by omega, by decide⟩, rfl⟩
  case round =>
    obtain ⟨q, x, hq, rfl, rfl, hacc, hwr⟩ := hrel
    have hwr := hwr.symm
    subst hwr
    have HACC : Hid (q ≤ 4 → dotAcc x (ls.drop q) = dotAcc 0 ls ∧ 0 ≤ x ∧ x < 256 ^ q) := hacc
    clear hacc
    by_cases hlt : q < ls.length
    · obtain ⟨p, hp⟩ : ∃ p, ls[q]? = some p := ⟨ls[q], List.getElem?_eq_getElem hlt⟩
      obtain ⟨g, hsp, cp⟩ := HROW.out q p hp
      subst hsp
      have HPM : Hid (p ∈ ls) := List.mem_of_getElem? hp
      have hpl := HLB.out p HPM.out
      have HSTEP : Hid (∀ n : Int, plainDec p = some n → dotAcc x (ls.drop q) = dotAcc (x * 256 + n) (ls.drop (q + 1))) := by
        intro n hn
        obtain ⟨h1, h2⟩ := List.getElem?_eq_some_iff.1 hp
        rw [List.drop_eq_getElem_cons h1, h2]
        unfold dotAcc
        rw [hn]
        cases ls.drop (q + 1) <;> rfl
      obtain ⟨pb, hpb⟩ : ∃ pb : ByteArray, pb = ⟨p.toArray⟩ := ⟨_, rfl⟩
      rw [← hpb] at cp
      have hpz : pb.size = p.length := by rw [hpb]; exact size_mk p
      have HPG : Hid (∀ (k : Nat) (h : k < pb.size) (h2 : k < p.length), p[k] = pb[k]) := by
        intro k h h2
        subst hpb
        rfl
      have hpe : pb.toList.isEmpty = p.isEmpty := by rw [hpb, Lib.toList_data]
      clear hp hpb
      go_wp2_with fail
      go_loopw [7, 8] (fun a i wr => ∃ (k : Nat) (v : Int), k ≤ pb.size ∧ i = .int .i64 k ∧ a = .int .i64 v ∧ 0 ≤ v ∧ v ≤ 255 ∧ digAcc 10 255 v (p.drop k) = digAcc 10 255 0 p ∧ (2 ≤ k → ¬ p.head? = some 48) ∧ wr = w1) (fun _ i _ => pb.size - (intOf i).toNat)
      case atStart => exact ⟨0, 0, Nat.zero_le _, rfl, rfl, by omega, by omega, rfl, fun h => by omega, rfl⟩
      case round =>
        obtain ⟨k, v, hk, rfl, rfl, hv0, hv1, hdig, hhead, hwr⟩ := hrel
        have hwr := hwr.symm
        subst hwr
        have HDG : Hid (digAcc 10 255 v (p.drop k) = digAcc 10 255 0 p) := hdig
        have HHE : Hid (2 ≤ k → ¬ p.head? = some 48) := hhead
        clear hdig hhead
        by_cases hkl : k < pb.size
        · have h2 : k < p.length := by omega
          have hg := HPG.out k hkl h2
          have HD : Hid _ := HDI.out pb[k] w1
          have hst := digAcc10_step v p k h2
          rw [hg] at hst
          have HST : Hid _ := hst
          have HPD : Hid (digAcc 10 255 0 p = none → plainDec p = none) := by
            intro h
            unfold plainDec
            split
            · rfl
            · split
              · rfl
              · exact h
          clear hst hg
          cases hd : refDigit pb[k] with
          | false =>
            have HRES : Hid (res = none) := HN1.out p HPM.out (HPD.out (by rw [← HDG.out, HST.out, if_neg (dig_not _ hd)]))
            rw [hd] at HD
            clear hd
            go_wp2_with fail
            refine Calls.mono HD.out ?_
            rintro e W0 ⟨rfl, hw0⟩
            have hw0 := hw0.symm
            subst hw0
            go_wp2
            go_ret2
            rw [HRES.out]
            exact ⟨⟨_, rfl⟩, HB1.out⟩
          | true =>
            obtain ⟨e1, e2, e3, e4⟩ := dig_val _ hd
            rw [hd] at HD
            have hsub : IntKind.u8.wrap ((pb[k].toNat : Int) - 48) = (pb[k].toNat : Int) - 48 := by
              simp only [IntKind.wrap, IntKind.bits, IntKind.signed]
              simp
              omega
            have hk0 : (0 : Int) ≤ (k : Int) := by omega
            have HH0 : Hid (∀ h : 0 < pb.size, p.head? = some pb[0]) := by
              intro h
              have h3 : 0 < p.length := by omega
              have := HPG.out 0 h h3
              rw [List.head?_eq_getElem?, List.getElem?_eq_getElem h3, this]
            by_cases hA : k = 1 ∧ p.head? = some 48
            · obtain ⟨hk1, hh⟩ := hA
              have HRES : Hid (res = none) := HN1.out p HPM.out (by
                unfold plainDec
                split
                · rfl
                · rw [if_pos ⟨hh, by omega⟩])
              have h0 : 0 < pb.size := by omega
              have hp0 := HH0.out h0
              rw [hh] at hp0
              have hp00 : pb[0] = 48 := (Option.some.inj hp0).symm
              have hpb0 : ((pb[0].toNat : Int) == 48) = true := by rw [hp00]; rfl
              subst hk1
              clear hd e1 e2 e3 e4 hsub hp0 hp00 hh
              go_wp2_with fail
              refine Calls.mono HD.out ?_
              rintro e W0 ⟨rfl, hw0⟩
              have hw0 := hw0.symm
              subst hw0
              go_wp2
              go_ret2
              rw [HRES.out]
              exact ⟨⟨_, rfl⟩, HB1.out⟩
            · have hB : ((k : Int) == 1) = false ∨ (((k : Int) == 1) = true ∧ ∃ h0 : 0 < pb.size, ((pb[0].toNat : Int) == 48) = false) := by
                by_cases h1 : k = 1
                · right
                  have h0 : 0 < pb.size := by omega
                  refine ⟨by rw [h1]; rfl, h0, ?_⟩
                  rw [beq_eq_false_iff_ne]
                  intro h
                  exact hA ⟨h1, by rw [HH0.out h0]; exact congrArg some (UInt8.toNat_inj.1 (by show pb[0].toNat = 48; omega))⟩
                · left
                  rw [beq_eq_false_iff_ne]
                  omega
              have HHN : Hid (2 ≤ k + 1 → ¬ p.head? = some 48) := by
                intro h3 h4
                by_cases h1 : k = 1
                · exact hA ⟨h1, h4⟩
                · exact HHE.out (by omega) h4
              have hst := HST.out
              rw [if_pos e2, e1] at hst
              obtain ⟨n, hn⟩ : ∃ n : Int, n = (pb[k].toNat : Int) - 48 := ⟨_, rfl⟩
              rw [← hn] at hst hsub
              have hn0 : 0 ≤ n ∧ n ≤ 9 := by omega
              obtain ⟨hna, hnb⟩ := hn0
              have hnn : (pb[k].toNat : Int) - 48 = n := hn.symm
              have hw1 : wrap64 (10 * v) = 10 * v := by unfold wrap64; omega
              have hw2 : wrap64 (10 * v + n) = 10 * v + n := by unfold wrap64; omega
              clear hd e1 e2 hn HST hA HH0 HHE
              by_cases hbig : 10 * v + n ≤ 255
              · rw [if_pos (by omega)] at hst
                have HDN : Hid (digAcc 10 255 (10 * v + n) (p.drop (k + 1)) = digAcc 10 255 0 p) := by
                  show _ = _
                  rw [← HDG.out, hst, show v * 10 + n = 10 * v + n by omega]
                clear hst
                rcases hB with hB | ⟨hB, h0, hB2⟩
                all_goals
                  go_wp2_with fail
                  refine Calls.mono HD.out ?_
                  rintro e W0 ⟨rfl, hw0⟩
                  have hw0 := hw0.symm
                  subst hw0
                  go_wp2
                  go_roundw
                  case rel => exact ⟨k + 1, 10 * v + n, by omega, by go_num, by go_num, by omega, by omega, HDN.out, HHN.out, trivial⟩
                  case measure => (simp [intOf]; try omega)
              · rw [if_neg (by omega)] at hst
                have HRES : Hid (res = none) := HN1.out p HPM.out (HPD.out (by rw [← HDG.out, hst]))
                clear hst
                rcases hB with hB | ⟨hB, h0, hB2⟩
                all_goals
                  go_wp2_with fail
                  refine Calls.mono HD.out ?_
                  rintro e W0 ⟨rfl, hw0⟩
                  have hw0 := hw0.symm
                  subst hw0
                  go_wp2
                  go_ret2
                  rw [HRES.out]
                  exact ⟨⟨_, rfl⟩, HB1.out⟩
        · by_cases hpn : p = []
          · have HRES : Hid (res = none) := HN1.out p HPM.out (by rw [hpn]; rfl)
            have hpe2 : pb.toList.isEmpty = true := by rw [hpe, hpn]; rfl
            clear hpe hpn
            go_wp2
            go_ret2
            rw [HRES.out]
            exact ⟨⟨_, rfl⟩, HB1.out⟩
          · have hpe2 : pb.toList.isEmpty = false := by
              rw [hpe]
              cases p with
              | nil => exact absurd rfl hpn
              | cons => rfl
            have HPD : Hid (plainDec p = some v) := by
              show _ = _
              have h := HDG.out
              rw [List.drop_eq_nil_of_le (by omega)] at h
              unfold plainDec
              rw [if_neg hpn, if_neg (fun h2 => HHE.out (by omega) h2.1), ← h]
              rfl
            clear hpe
            go_wp2
            go_roundw
            case rel =>
              refine ⟨q + 1, _, by omega, by go_num, rfl, fun h4 => ?_, trivial⟩
              obtain ⟨a1, a2, a3⟩ := HACC.out (by omega)
              have a4 : x < 16777216 := Int.lt_of_lt_of_le a3 (by
                have : (256 : Int) ^ q ≤ 256 ^ 3 := by
                  have h5 : q = 0 ∨ q = 1 ∨ q = 2 ∨ q = 3 := by omega
                  rcases h5 with rfl | rfl | rfl | rfl <;> decide
                exact this)
              have e : wrap64 (wrap64 (256 * x) + v) = x * 256 + v := by unfold wrap64; omega
              rw [e]
              refine ⟨by rw [← a1, HSTEP.out v HPD.out], by omega, ?_⟩
              rw [Int.pow_succ]
              omega
            case measure => (simp [intOf]; try omega)
    · have hqe : q = ls.length := by omega
      subst hqe
      by_cases h4 : ls.length = 4
      · obtain ⟨a1, a2, a3⟩ := HACC.out (by omega)
        have HRES : Hid (res = some x) := by
          show _ = _
          rw [HN3.out h4, ← a1, List.drop_eq_nil_of_le (Nat.le_refl _)]
          rfl
        have hl4 : ((ls.length : Int) == 4) = true := by rw [h4]; rfl
        clear a1 a2 a3
        go_wp2
        go_ret2
        rw [HRES.out]
        exact ⟨by first | rfl | (show _ = _; simp [h4]), HB1.out⟩
      · have HRES : Hid (res = none) := HN2.out h4
        have hl4 : ((ls.length : Int) == 4) = false := by rw [beq_eq_false_iff_ne]; omega
        go_wp2
        go_ret2
        rw [HRES.out]
        exact ⟨⟨x, by first | rfl | simp [h4]⟩, HB1.out⟩
end Go.Proofs
/-
  What sixteen and decimal of package moorref answer.
-/
namespace Go.Proofs
open Go.RowKit Go.Moor

set_option maxHeartbeats 2000000 in
theorem Tryz.rsixteen_any : ∀ (k n : Nat) (w : World), k ≤ 40 → n < 16 ^ (k + 1) → n < 4294967296 →
    Calls Tryz.prog 172 #[.int .i64 n] w fun e w' => e = .returned (.string ⟨(digsF 16 k n).toArray⟩) ∧ ∃ nd, w' = w.drewN nd
  | k, n, w, hk40, hn, hn2 => by
    by_cases h : n < 16
    · have HE : Hid (lowHex.extract n (n + 1) = ⟨[hexL n].toArray⟩) := low_at n (by omega)
      have HD : Hid (digsF 16 k n = [hexL n]) := by
        show _ = _
        cases k with
        | zero => rfl
        | succ k => unfold digsF; rw [if_pos h]
      rw [HD.out]
      clear hn
      go_enter Tryz.func172, Tryz.ntmps172
      go_wp2
      go_ret
      refine ⟨?_, 0, rfl⟩
      show Ending.returned (.string (lowHex.extract n (n + 1))) = _
      rw [HE.out]
    · match k, hk40, hn with
      | 0, _, hn => exact absurd (by simpa using hn) h
      | k + 1, hk40, hn =>
        have hq : n / 16 < 16 ^ (k + 1) := by
          rw [Nat.div_lt_iff_lt_mul (by omega)]
          rwa [Nat.pow_succ] at hn
        have IH : Hid (∀ w, Calls Tryz.prog 172 #[.int .i64 ((n : Int) / 16)] w fun e w' => e = .returned (.string ⟨(digsF 16 k (n / 16)).toArray⟩) ∧ ∃ nd, w' = w.drewN nd) := fun w => by
          have := Tryz.rsixteen_any k (n / 16) w (by omega) hq (by omega)
          rw [show ((n / 16 : Nat) : Int) = (n : Int) / 16 by omega] at this
          exact this
        have HE : Hid (lowHex.extract (n % 16) (n % 16 + 1) = ⟨[hexL (n % 16)].toArray⟩) := low_at (n % 16) (by omega)
        have HD : Hid (digsF 16 (k + 1) n = digsF 16 k (n / 16) ++ [hexL (n % 16)]) := by
          show _ = _
          rw [digsF, if_neg h]
        rw [HD.out]
        have hw1 : IntKind.i64.wrap ((n : Int) / 16) = (n : Int) / 16 := wrap_i64 _ (by omega) (by omega)
        have hw2 : (n : Int).tmod 16 = (n : Int) % 16 := Int.tmod_eq_emod_of_nonneg (by omega)
        have hw3 : IntKind.i64.wrap ((n : Int) % 16 + 1) = (n : Int) % 16 + 1 := wrap_i64 _ (by omega) (by omega)
        have hsl : ∀ W, (Instr.slice 9 (.string ⟨#[48, 49, 50, 51, 52, 53, 54, 55, 56, 57, 97, 98, 99, 100, 101, 102]⟩) (some (.int .i64 ((n : Int) % 16))) (some (.int .i64 ((n : Int) % 16 + 1))) none).run Tryz.prog W = .ok (.string ⟨#[hexL (n % 16)]⟩) W := fun W => by
          rw [run_slice_string W 9 _ .i64 .i64 _ _ Tryz.underlying9 (by omega) (by omega) (show (n : Int) % 16 + 1 ≤ ((16 : Nat) : Int) by omega), show ((n : Int) % 16).toNat = n % 16 by omega, show ((n : Int) % 16 + 1).toNat = n % 16 + 1 by omega]
          exact congrArg (fun x => Result.ok (Value.string x) W) HE.out
        have hdl : (digsF 16 k (n / 16)).length ≤ 41 := by have := digs_len 16 k (n / 16); omega
        clear hn  hq
        go_enter Tryz.func172, Tryz.ntmps172
        go_wp2_with fail
        go_region_with (go_at_call 172; refine (IH.out _).mono ?_; rintro e w' ⟨rfl, nd, rfl⟩)
        all_goals
          go_wp2
          go_ret
          refine ⟨?_, _, rfl⟩
          show Ending.returned (.string (⟨(digsF 16 k (n / 16)).toArray⟩ ++ ⟨[hexL (n % 16)].toArray⟩)) = _
          rw [app_mk]


theorem same_heapQ {k : Nat} {w w' : World} (ho : w'.os = w.os) (ht : w'.tape = w.tape) (hu : w'.output = w.output) (hh : w'.heap = w.heap) : Below k w w' := ⟨ho, ht, hu, by rw [hh]; exact Nat.le_refl _, fun _ _ => by rw [hh]⟩
theorem dig10 (n : Nat) (h : n < 10) : ((hexL n).toNat : Int) = 48 + (n : Int) := by
  have : ∀ k : Fin 10, ((hexL k.val).toNat : Int) = 48 + (k.val : Int) := by decide +kernel
  exact this ⟨n, h⟩
set_option maxHeartbeats 4000000 in
set_option maxRecDepth 8000 in
theorem Tryz.rdecimal_any : ∀ (k n : Nat) (w : World), k ≤ 40 → n < 10 ^ (k + 1) → n < 4294967296 →
    Calls Tryz.prog 128 #[.int .i64 n] w fun e w' => e = .returned (.string ⟨(digsF 10 k n).toArray⟩) ∧ Below w.heap.size w w'
  | k, n, w, hk40, hn, hn2 => by
    by_cases h : n < 10
    · have hcv := Tryz.one_text (hexL n) (48 + (n : Int)) (dig10 n h) w
      have HD : Hid (digsF 10 k n = [hexL n]) := by
        show _ = _
        cases k with
        | zero => rfl
        | succ k => unfold digsF; rw [if_pos h]
      rw [HD.out]
      have hi : (n : Int) < 10 := by omega
      generalize hexL n = x at *
      clear hn
      go_enter Tryz.func128, Tryz.ntmps128
      go_wp2
      go_ret
      exact ⟨rfl, (Below.refl _ _).alloc (Nat.le_refl _) _⟩
    · match k, hk40, hn with
      | 0, _, hn => exact absurd (by simpa using hn) h
      | k + 1, hk40, hn =>
        have hq : n / 10 < 10 ^ (k + 1) := by
          rw [Nat.div_lt_iff_lt_mul (by omega)]
          rwa [Nat.pow_succ] at hn
        have IH : Hid (∀ w, Calls Tryz.prog 128 #[.int .i64 ((n : Int) / 10)] w fun e w' => e = .returned (.string ⟨(digsF 10 k (n / 10)).toArray⟩) ∧ Below w.heap.size w w') := fun w => by
          have := Tryz.rdecimal_any k (n / 10) w (by omega) hq (by omega)
          rw [show ((n / 10 : Nat) : Int) = (n : Int) / 10 by omega] at this
          exact this
        have HD : Hid (digsF 10 (k + 1) n = digsF 10 k (n / 10) ++ [hexL (n % 10)]) := by
          show _ = _
          rw [digsF, if_neg h]
        rw [HD.out]
        have hw1 : IntKind.i64.wrap ((n : Int) / 10) = (n : Int) / 10 := wrap_i64 _ (by omega) (by omega)
        have hw2 : (n : Int).tmod 10 = (n : Int) % 10 := Int.tmod_eq_emod_of_nonneg (by omega)
        have hw3 : IntKind.i64.wrap (48 + (n : Int) % 10) = 48 + (n : Int) % 10 := wrap_i64 _ (by omega) (by omega)
        have hw4 : IntKind.u8.wrap (48 + (n : Int) % 10) = 48 + (n : Int) % 10 := by
          simp only [IntKind.wrap, IntKind.bits, IntKind.signed]
          simp
          omega
        have hd := dig10 (n % 10) (by omega)
        have hd2 : ((hexL (n % 10)).toNat : Int) = 48 + (n : Int) % 10 := by rw [hd]; omega
        have hcv : ∀ (W : World) (g : Nat), W.cell? ⟨g, 0, none⟩ = some (.int .u8 (48 + (n : Int) % 10)) → (convert 47 9 (.slice (some ⟨g, 0, none⟩) 1 1)).run Tryz.prog W = .ok (.string ⟨#[hexL (n % 10)]⟩) W := by
          intro W g hc
          exact run_convert_bytes_back W 47 9 5 ⟨g, 0, none⟩ 1 [hexL (n % 10)] Tryz.underlying47 Tryz.underlying5 Tryz.underlying9 (fun i hi => by
            match i, hi with
            | 0, _ =>
              refine hc.trans ?_
              show some (Value.int .u8 (48 + (n : Int) % 10)) = some (Value.int .u8 ((hexL (n % 10)).toNat : Int))
              rw [hd2])
        have hdl : (digsF 10 k (n / 10)).length ≤ 41 := by have := digs_len 10 k (n / 10); omega
        clear hn hq hd hd2
        go_enter Tryz.func128, Tryz.ntmps128
        go_wp2_with fail
        go_region_with (go_at_call 128; refine (IH.out _).mono ?_; rintro e w1 ⟨rfl, b1⟩; first | (have hcc : w1.cell? ⟨w.heap.size, 0, none⟩ = some (.int .u8 (48 + (n : Int) % 10)) := (b1.cell (p := ⟨w.heap.size, 0, none⟩) (by simp)).trans (World.cell?_alloc_new _ #[.int .u8 (48 + (n : Int) % 10)] 5 0)) | skip)
        all_goals
          go_wp2
          go_ret
          refine ⟨?_, ?_⟩
          · show Ending.returned (.string (⟨(digsF 10 k (n / 10)).toArray⟩ ++ ⟨[hexL (n % 10)].toArray⟩)) = _
            rw [app_mk]
          · first
              | exact ((same_heapQ rfl rfl rfl rfl : Below w.heap.size w w.drew).trans b1).alloc b1.size _
              | exact ((same_heapQ rfl rfl rfl rfl : Below w.heap.size w w.drew).alloc (Nat.le_refl _) _).trans (b1.mono (by simp))
              | exact ((same_heapQ rfl rfl rfl rfl : Below w.heap.size w w.drew).alloc (Nat.le_refl _) _).trans (b1.mono (Nat.le_succ _))
end Go.Proofs
/-
  What tell of package moorref answers: an IP6.
-/
namespace Go.Proofs
open Go.RowKit Go.Moor

theorem zrun_step (ps : List Nat) (i : Nat) (h : i < ps.length) : zrun (ps.drop i) = if ps[i] = 0 then zrun (ps.drop (i + 1)) + 1 else 0 := by
  rw [List.drop_eq_getElem_cons h]
  rfl
theorem zrun_le : ∀ l : List Nat, zrun l ≤ l.length
  | [] => Nat.le_refl _
  | p :: l => by
    unfold zrun
    split
    · have := zrun_le l; simp; omega
    · simp
theorem best_step (ps : List Nat) (i : Nat) (h : i < ps.length) (f : Int) (s : Nat) : bestRun (ps.drop i) i f s = if s < zrun (ps.drop i) then bestRun (ps.drop (i + 1)) (i + 1) i (zrun (ps.drop i)) else bestRun (ps.drop (i + 1)) (i + 1) f s := by
  conv => lhs; rw [List.drop_eq_getElem_cons h]
  rw [List.drop_eq_getElem_cons h]
  rfl
theorem best_range : ∀ (l : List Nat) (i : Nat) (f : Int) (s : Nat), -1 ≤ f → f + s ≤ i + l.length → -1 ≤ (bestRun l i f s).1 ∧ (bestRun l i f s).1 + (bestRun l i f s).2 ≤ i + l.length
  | [], i, f, s, h, h2 => ⟨h, h2⟩
  | p :: l, i, f, s, h, h2 => by
    unfold bestRun
    have hz := zrun_le (p :: l)
    simp only [List.length_cons] at hz h2 ⊢
    split
    · have := best_range l (i + 1) i (zrun (p :: l)) (by omega) (by omega)
      refine ⟨this.1, ?_⟩
      have h3 := this.2
      omega
    · have := best_range l (i + 1) f s h (by omega)
      refine ⟨this.1, ?_⟩
      have h3 := this.2
      omega
theorem row_snoc (ps : List Nat) (i : Nat) (h : i < ps.length) : tellRow (ps.take (i + 1)) = if i = 0 then pieceTxt ps[i] else tellRow (ps.take i) ++ 58 :: pieceTxt ps[i] := by
  have e : ps.take (i + 1) = ps.take i ++ [ps[i]] := by
    rw [List.take_add_one, List.getElem?_eq_getElem h]
    rfl
  rw [e]
  unfold tellRow
  rw [List.map_append]
  have hl : ((ps.take i).map pieceTxt).length = i := by simp; omega
  generalize (ps.take i).map pieceTxt = l at *
  cases l with
  | nil =>
    simp at hl
    rw [if_pos hl.symm]
    exact Lib.join_one _ _
  | cons x r =>
    rw [if_neg (by simp at hl; omega)]
    rw [List.cons_append, Lib.join_cons, Lib.join_cons]
    unfold Lib.joinTail
    simp

/-- What is told behind i steps, the longest row standing at f, s long. -/
def outAt (ps : List Nat) (f s : Nat) (i : Nat) : List UInt8 :=
  if i ≤ f then tellRow (ps.take i) else if i ≤ f + s then tellRow (ps.take f) ++ [58, 58] else tellRow (ps.take f) ++ ([58, 58] ++ tellRow ((ps.drop (f + s)).take (i - (f + s))))

theorem outAt_a (ps : List Nat) (f s i : Nat) (h : i < f) (hi : i < ps.length) : outAt ps f s (i + 1) = if i = 0 then pieceTxt ps[i] else outAt ps f s i ++ 58 :: pieceTxt ps[i] := by
  have e1 : outAt ps f s (i + 1) = tellRow (ps.take (i + 1)) := if_pos (by omega)
  have e2 : outAt ps f s i = tellRow (ps.take i) := if_pos (by omega)
  rw [e1, e2]
  exact row_snoc ps i hi
theorem outAt_b (ps : List Nat) (f s : Nat) (hs : 0 < s) : outAt ps f s (f + 1) = outAt ps f s f ++ [58, 58] := by
  unfold outAt
  rw [if_neg (by omega), if_pos (by omega), if_pos (by omega)]
theorem outAt_c (ps : List Nat) (f s i : Nat) (h : f < i) (h2 : i < f + s) : outAt ps f s (i + 1) = outAt ps f s i := by
  unfold outAt
  rw [if_neg (by omega), if_pos (by omega), if_neg (by omega), if_pos (by omega)]
theorem outAt_de (ps : List Nat) (f s i : Nat) (hs : 0 < s) (h : f + s ≤ i) (hi : i < ps.length) : outAt ps f s (i + 1) = if i = f + s then outAt ps f s i ++ pieceTxt ps[i] else outAt ps f s i ++ 58 :: pieceTxt ps[i] := by
  have hd : i - (f + s) < (ps.drop (f + s)).length := by rw [List.length_drop]; omega
  have hr := row_snoc (ps.drop (f + s)) (i - (f + s)) hd
  have hg : (ps.drop (f + s))[i - (f + s)] = ps[i] := by
    rw [List.getElem_drop]
    congr 1
    omega
  rw [hg] at hr
  unfold outAt
  rw [if_neg (by omega), if_neg (by omega), show i + 1 - (f + s) = i - (f + s) + 1 by omega, hr]
  by_cases he : i = f + s
  · rw [if_pos (by omega), if_pos he, if_neg (by omega), if_pos (by omega)]
    simp
  · rw [if_neg (by omega), if_neg he, if_neg (by omega), if_neg (by omega)]
    simp
theorem outAt_len (ps : List Nat) (f s i : Nat) (h8 : ps.length = 8) : (outAt ps f s i).length ≤ 100 := by
  have h1 := tellRow_len (ps.take i)
  have h2 := tellRow_len (ps.take f)
  have h3 := tellRow_len ((ps.drop (f + s)).take (i - (f + s)))
  rw [List.length_take] at h1 h2 h3
  rw [List.length_drop] at h3
  unfold outAt
  split
  · omega
  · split
    · simp; omega
    · simp; omega

theorem outAt_end (ps : List Nat) (f s : Nat) (h : f + s ≤ 8) (h8 : ps.length = 8) (hs : 0 < s) : outAt ps f s 8 = tellRow (ps.take f) ++ ([58, 58] ++ tellRow (ps.drop (f + s))) := by
  unfold outAt
  rw [if_neg (by omega)]
  split
  · have : f + s = 8 := by omega
    rw [this, List.drop_eq_nil_of_le (by omega)]
    rfl
  · rw [show List.take (8 - (f + s)) (List.drop (f + s) ps) = List.drop (f + s) ps from List.take_of_length_le (by rw [List.length_drop]; omega)]

set_option maxHeartbeats 16000000 in
set_option maxRecDepth 4000 in
theorem Tryz.rtell_any (ps : List Nat) (h8 : ps.length = 8) (hp : ∀ p ∈ ps, p < 65536) (w : World) :
    Calls Tryz.prog 117 #[.agg (ps.map fun p => Value.int .i64 (p : Nat)).toArray] w fun e w' => e = .returned (.string ⟨(sixTell ps).toArray⟩) ∧ Below w.heap.size w w' := by
  obtain ⟨cs, hcs⟩ : ∃ cs, cs = (ps.map fun p => Value.int .i64 (p : Nat)).toArray := ⟨_, rfl⟩
  rw [← hcs]
  obtain ⟨W, hW⟩ : ∃ W, W = w.alloc (.cells cs 34) := ⟨_, rfl⟩
  have hBW : Below w.heap.size w W := by
    rw [hW]
    exact (Below.refl _ _).alloc (Nat.le_refl _) _
  have hz : W.heap[w.heap.size]? = some (.cells cs 34 (0, 0)) := by rw [hW]; exact heap_alloc_new w _
  have hzs : w.heap.size < W.heap.size := (Array.getElem?_eq_some_iff.1 hz).1
  have HCE : Hid (∀ (i : Nat) (h : i < ps.length) w1, Below W.heap.size W w1 → w1.cell? ⟨w.heap.size, i, none⟩ = some (.int .i64 (ps[i] : Nat))) := by
    intro i h w1 b
    have k := (b.block w.heap.size hzs).trans hz
    unfold World.cell?
    simp [k, hcs, h]
  have HBW : Hid (∀ w1, Below W.heap.size W w1 → Below w.heap.size w w1) := fun w1 b => hBW.trans (b.mono (Nat.le_of_lt hzs))
  have HS : Hid (∀ (i : Nat) (h : i < ps.length) w1, Calls Tryz.prog 172 #[.int .i64 (ps[i] : Nat)] w1 fun e w' => e = .returned (.string ⟨(pieceTxt ps[i]).toArray⟩) ∧ ∃ nd, w' = w1.drewN nd) := by
    intro i h w1
    have hpi := hp ps[i] (List.getElem_mem h)
    exact Tryz.rsixteen_any 3 ps[i] w1 (by omega) (by omega) (by omega)
  have hbn := best_noughts ps h8
  have HBR : Hid (-1 ≤ (bestRun ps 0 (-1) 1).1 ∧ (bestRun ps 0 (-1) 1).1 + (bestRun ps 0 (-1) 1).2 ≤ 8) := by
    have := best_range ps 0 (-1) 1 (by omega) (by omega)
    refine ⟨this.1, ?_⟩
    have h2 := this.2
    omega
  have HBN : Hid _ := hbn
  clear hbn hcs hBW hz
  go_enter Tryz.func117, Tryz.ntmps117
  go_upto_region 1 with fail
  rw [← hW]
  clear hW
  go_wp2_with fail
  go_loopw [3, 4, 5] (fun a b i wr => ∃ (k : Nat) (f : Int) (s : Nat), k ≤ 8 ∧ a = .int .i64 f ∧ b = .int .i64 (s : Nat) ∧ i = .int .i64 (k : Nat) ∧ s ≤ 8 ∧ bestRun (ps.drop k) k f s = bestRun ps 0 (-1) 1 ∧ wr = W) (fun _ _ i _ => 8 - (intOf i).toNat)
  case atStart => exact ⟨0, -1, 1, Nat.zero_le _, rfl, rfl, rfl, by omega, rfl, rfl⟩
  case round =>
    obtain ⟨k, f, s, hk, rfl, rfl, rfl, hs8, hbest, hwr⟩ := hrel
    have hwr := hwr.symm
    subst hwr
    have HBS : Hid (bestRun (ps.drop k) k f s = bestRun ps 0 (-1) 1) := hbest
    clear hbest
    by_cases hlt : k < 8
    · have hk2 : k < ps.length := by omega
      have hst := best_step ps k hk2 f s
      have HST : Hid _ := hst
      have hki : (k : Int) < 8 := by omega
      have hzk : zrun (ps.drop k) ≤ 8 - k := by have := zrun_le (ps.drop k); rw [List.length_drop] at this; omega
      clear hst
      go_wp2_with fail
      go_loopw [6] (fun n wr => ∃ m : Nat, k + m ≤ 8 ∧ n = .int .i64 (m : Nat) ∧ m + zrun (ps.drop (k + m)) = zrun (ps.drop k) ∧ wr = W) (fun n _ => 8 - (intOf n).toNat)
      case atStart => exact ⟨0, by omega, rfl, by simp, rfl⟩
      case round =>
        obtain ⟨m, hm, rfl, hzr, hwr⟩ := hrel
        have hwr := hwr.symm
        subst hwr
        have HZR : Hid (m + zrun (ps.drop (k + m)) = zrun (ps.drop k)) := hzr
        clear hzr
        by_cases hkm : k + m < 8
        · have hkm2 : k + m < ps.length := by omega
          have hkmi : (k : Int) + (m : Int) < 8 := by omega
          have cc := HCE.out (k + m) hkm2 W (Below.refl _ _)
          have hzs2 := zrun_step ps (k + m) hkm2
          have HZ2 : Hid _ := hzs2
          clear hzs2
          by_cases hp0 : ps[k + m] = 0
          · have HZN : Hid (m + 1 + zrun (ps.drop (k + (m + 1))) = zrun (ps.drop k)) := by
              show _ = _
              have h1 := HZR.out
              have h2 := HZ2.out
              rw [if_pos hp0] at h2
              rw [show k + (m + 1) = k + m + 1 by omega]
              omega
            rw [hp0] at cc
            clear hp0
            go_wp2
            go_roundw
            case rel => exact ⟨m + 1, by omega, by go_num, HZN.out, trivial⟩
            case measure => (simp [intOf]; try omega)
          · have HMZ : Hid (m = zrun (ps.drop k)) := by
              show _ = _
              have h1 := HZR.out
              have h2 := HZ2.out
              rw [if_neg hp0] at h2
              omega
            have hne : (((ps[k + m] : Nat) : Int) == 0) = false := by rw [beq_eq_false_iff_ne]; omega
            generalize ps[k + m] = pk at *
            clear hp0
            have hmi : (m : Int) ≤ 8 := by omega
            by_cases hgt : s < m
            · have hgi : (s : Int) < (m : Int) := by omega
              have HNW : Hid (bestRun (ps.drop (k + 1)) (k + 1) k m = bestRun ps 0 (-1) 1) := by
                show _ = _
                have h1 := HST.out
                rw [← HMZ.out, if_pos hgt] at h1
                rw [← h1]
                exact HBS.out
              go_wp2
              go_roundw
              case rel => exact ⟨k + 1, k, m, by omega, rfl, rfl, by go_num, by omega, HNW.out, trivial⟩
              case measure => (simp [intOf]; try omega)
            · have hgi : ¬ (s : Int) < (m : Int) := by omega
              have HNW : Hid (bestRun (ps.drop (k + 1)) (k + 1) f s = bestRun ps 0 (-1) 1) := by
                show _ = _
                have h1 := HST.out
                rw [← HMZ.out, if_neg hgt] at h1
                rw [← h1]
                exact HBS.out
              go_wp2
              go_roundw
              case rel => exact ⟨k + 1, f, s, by omega, rfl, rfl, by go_num, hs8, HNW.out, trivial⟩
              case measure => (simp [intOf]; try omega)
        · have HMZ : Hid (m = zrun (ps.drop k)) := by
            show _ = _
            have h1 := HZR.out
            rw [List.drop_eq_nil_of_le (by omega)] at h1
            exact h1
          have hkmi : ¬ (k : Int) + (m : Int) < 8 := by omega
          have hmi : (m : Int) ≤ 8 := by omega
          by_cases hgt : s < m
          · have hgi : (s : Int) < (m : Int) := by omega
            have HNW : Hid (bestRun (ps.drop (k + 1)) (k + 1) k m = bestRun ps 0 (-1) 1) := by
              show _ = _
              have h1 := HST.out
              rw [← HMZ.out, if_pos hgt] at h1
              rw [← h1]
              exact HBS.out
            go_wp2
            go_roundw
            case rel => exact ⟨k + 1, k, m, by omega, rfl, rfl, by go_num, by omega, HNW.out, trivial⟩
            case measure => (simp [intOf]; try omega)
          · have hgi : ¬ (s : Int) < (m : Int) := by omega
            have HNW : Hid (bestRun (ps.drop (k + 1)) (k + 1) f s = bestRun ps 0 (-1) 1) := by
              show _ = _
              have h1 := HST.out
              rw [← HMZ.out, if_neg hgt] at h1
              rw [← h1]
              exact HBS.out
            go_wp2
            go_roundw
            case rel => exact ⟨k + 1, f, s, by omega, rfl, rfl, by go_num, hs8, HNW.out, trivial⟩
            case measure => (simp [intOf]; try omega)
    · have hke : k = 8 := by omega
      subst hke
      have HFS : Hid ((f, s) = bestRun ps 0 (-1) 1) := by
        show _ = _
        have h := HBS.out
        rw [List.drop_eq_nil_of_le (by omega)] at h
        exact h
      by_cases hno : (noughts ps 0 0 0 0).2 < 2
      · have hfs := HFS.out
        rw [HBN.out, if_pos hno] at hfs
        injection hfs with hf hs
        subst hf hs
        have HT : Hid (sixTell ps = tellRow ps) := if_pos hno
        clear hno HBN HBS HFS HBR
        go_wp2_with fail
        go_loopw [7, 8] (fun o i wr => ∃ i0 : Nat, i0 ≤ 8 ∧ i = .int .i64 (i0 : Nat) ∧ o = .string ⟨(tellRow (ps.take i0)).toArray⟩ ∧ Below W.heap.size W wr) (fun _ i _ => 8 - (intOf i).toNat)
        case atStart => exact ⟨0, Nat.zero_le _, rfl, rfl, Below.refl _ _⟩
        case round =>
          obtain ⟨i, hi, rfl, rfl, hb⟩ := hrel
          have HB : Hid (Below W.heap.size W wr) := hb
          by_cases hi8 : i < 8
          · have hi2 : i < ps.length := by omega
            have hii : (i : Int) < 8 := by omega
            have cc := HCE.out i hi2 wr hb
            have hrs := row_snoc ps i hi2
            have hl1 := tellRow_len (ps.take i)
            have hl2 : (pieceTxt ps[i]).length ≤ 4 := digs_len 16 3 ps[i]
            have hsz1 : (⟨(tellRow (ps.take i)).toArray⟩ : ByteArray).size ≤ 40 := by rw [size_mk]; rw [List.length_take] at hl1; omega
            have hsz2 : (⟨(pieceTxt ps[i]).toArray⟩ : ByteArray).size ≤ 4 := by rw [size_mk]; exact hl2
            have hm1 : ((i : Int) == -1) = false := by rw [beq_eq_false_iff_ne]; omega
            clear hb hl1 hl2
            by_cases h0 : i = 0
            · subst h0
              rw [if_pos rfl] at hrs
              have HA : Hid ((⟨(tellRow (ps.take 0)).toArray⟩ : ByteArray) ++ ⟨(pieceTxt ps[0]).toArray⟩ = ⟨(tellRow (ps.take (0 + 1))).toArray⟩) := by
                show _ = _
                rw [hrs]
                exact app_mk [] _
              generalize (⟨(tellRow (ps.take 0)).toArray⟩ : ByteArray) = acc at *
              obtain ⟨pt, hpt⟩ : ∃ pt : ByteArray, pt = ⟨(pieceTxt ps[0]).toArray⟩ := ⟨_, rfl⟩
              have HSI : Hid (Calls Tryz.prog 172 #[.int .i64 (ps[0] : Nat)] wr fun e w' => e = .returned (.string pt) ∧ ∃ nd, w' = wr.drewN nd) := by show Calls _ _ _ _ _; rw [hpt]; exact HS.out 0 hi2 wr
              rw [← hpt] at HA hsz2
              have g1 : ∀ W : World, (Op.stringOp .add acc pt).run Tryz.prog W = .ok (.string (acc ++ pt)) W := fun W => run_string_add_sum W _ _ (by omega)
              clear hrs hpt hsz1 hsz2
              go_wp2_with fail
              refine Calls.mono HSI.out ?_
              rintro e w2 ⟨rfl, nd, rfl⟩
              have HB2 : Hid (Below W.heap.size W (wr.drewN nd)) := Go.below_drewN HB.out nd
              clear cc
              go_wp2
              go_roundw
              case rel => exact ⟨1, by omega, by go_num, congrArg Value.string HA.out, HB2.out⟩
              case measure => (simp [intOf]; try omega)
            · rw [if_neg h0] at hrs
              have hpos : (0 : Int) < (i : Int) := by omega
              have hne0 : ((i : Int) == 0) = false := by rw [beq_eq_false_iff_ne]; omega
              have HA : Hid ((⟨(tellRow (ps.take i)).toArray⟩ : ByteArray) ++ ⟨#[58]⟩ ++ ⟨(pieceTxt ps[i]).toArray⟩ = ⟨(tellRow (ps.take (i + 1))).toArray⟩) := by
                show _ = _
                have e1 : (⟨(tellRow (ps.take i)).toArray⟩ : ByteArray) ++ ⟨#[58]⟩ = ⟨(tellRow (ps.take i) ++ [58]).toArray⟩ := app_mk _ [58]
                rw [e1, app_mk, hrs]
                simp
              generalize (⟨(tellRow (ps.take i)).toArray⟩ : ByteArray) = acc at *
              obtain ⟨pt, hpt⟩ : ∃ pt : ByteArray, pt = ⟨(pieceTxt ps[i]).toArray⟩ := ⟨_, rfl⟩
              have HSI : Hid (Calls Tryz.prog 172 #[.int .i64 (ps[i] : Nat)] wr fun e w' => e = .returned (.string pt) ∧ ∃ nd, w' = wr.drewN nd) := by show Calls _ _ _ _ _; rw [hpt]; exact HS.out i hi2 wr
              rw [← hpt] at HA hsz2
              have z58 : (⟨#[58]⟩ : ByteArray).size = 1 := rfl
              have g0 : ∀ W : World, (Op.stringOp .add acc ⟨#[58]⟩).run Tryz.prog W = .ok (.string (acc ++ ⟨#[58]⟩)) W := fun W => run_string_add_sum W _ _ (by omega)
              have g1 : ∀ W : World, (Op.stringOp .add (acc ++ ⟨#[58]⟩) pt).run Tryz.prog W = .ok (.string (acc ++ ⟨#[58]⟩ ++ pt)) W := fun W => run_string_add_sum W _ _ (by simp only [ByteArray.size_append]; omega)
              clear hrs hpt hsz1 hsz2 z58 h0
              go_wp2_with fail
              refine Calls.mono HSI.out ?_
              rintro e w2 ⟨rfl, nd, rfl⟩
              have HB2 : Hid (Below W.heap.size W (wr.drewN nd)) := Go.below_drewN HB.out nd
              clear cc
              go_wp2
              go_roundw
              case rel => exact ⟨i + 1, by omega, by go_num, congrArg Value.string HA.out, HB2.out⟩
              case measure => (simp [intOf]; try omega)
          · have hie : ps.take i = ps := List.take_of_length_le (by omega)
            rw [hie]
            clear hie hb
            go_wp2
            go_ret
            rw [HT.out]
            exact ⟨rfl, HBW.out _ HB.out⟩
      · have hfs := HFS.out
        rw [HBN.out, if_neg hno] at hfs
        injection hfs with hf hs
        have hbr := HBR.out
        rw [HBN.out, if_neg hno] at hbr
        have HT : Hid (sixTell ps = tellRow (ps.take (noughts ps 0 0 0 0).1) ++ ([58, 58] ++ tellRow (ps.drop ((noughts ps 0 0 0 0).1 + (noughts ps 0 0 0 0).2)))) := if_neg hno
        have hS2 : 2 ≤ (noughts ps 0 0 0 0).2 := by omega
        have hF8 : (noughts ps 0 0 0 0).1 + (noughts ps 0 0 0 0).2 ≤ 8 := by have := hbr.2; simp only at this; omega
        generalize (noughts ps 0 0 0 0).1 = F at *
        generalize (noughts ps 0 0 0 0).2 = S at *
        subst hf hs
        clear hno HBN HBS HFS HBR hbr
        go_wp2_with fail
        go_loopw [7, 8] (fun o i wr => ∃ i0 : Nat, i0 ≤ 8 ∧ i = .int .i64 (i0 : Nat) ∧ o = .string ⟨(outAt ps F s i0).toArray⟩ ∧ Below W.heap.size W wr) (fun _ i _ => 8 - (intOf i).toNat)
        case atStart => exact ⟨0, Nat.zero_le _, rfl, by unfold outAt; rw [if_pos (by omega)]; rfl, Below.refl _ _⟩
        case round =>
          obtain ⟨i, hi, rfl, rfl, hb⟩ := hrel
          have HB : Hid (Below W.heap.size W wr) := hb
          by_cases hi8 : i < 8
          · have hi2 : i < ps.length := by omega
            have hii : (i : Int) < 8 := by omega
            have cc := HCE.out i hi2 wr hb
            have hl1 := outAt_len ps F s i h8
            have hl2 : (pieceTxt ps[i]).length ≤ 4 := digs_len 16 3 ps[i]
            obtain ⟨acc, hacc⟩ : ∃ acc : ByteArray, acc = ⟨(outAt ps F s i).toArray⟩ := ⟨_, rfl⟩
            obtain ⟨pt, hpt⟩ : ∃ pt : ByteArray, pt = ⟨(pieceTxt ps[i]).toArray⟩ := ⟨_, rfl⟩
            have hsz1 : acc.size ≤ 100 := by rw [hacc, size_mk]; exact hl1
            have hsz2 : pt.size ≤ 4 := by rw [hpt, size_mk]; exact hl2
            have HSI : Hid (Calls Tryz.prog 172 #[.int .i64 (ps[i] : Nat)] wr fun e w' => e = .returned (.string pt) ∧ ∃ nd, w' = wr.drewN nd) := by show Calls _ _ _ _ _; rw [hpt]; exact HS.out i hi2 wr
            have hF0 : (0 : Int) ≤ (F : Int) := by omega
            rw [← hacc]
            clear hb hl1 hl2
            by_cases hA : i < F
            · have hst := outAt_a ps F s i hA hi2
              have hne1 : ((i : Int) == (F : Int)) = false := by rw [beq_eq_false_iff_ne]; omega
              have hlt1 : ¬ (F : Int) ≤ (i : Int) := by omega
              by_cases h0 : i = 0
              · rw [if_pos h0] at hst
                have hnp : ¬ (0 : Int) < (i : Int) := by omega
                have HA : Hid (acc ++ pt = ⟨(outAt ps F s (i + 1)).toArray⟩) := by
                  show _ = _
                  have e0 : outAt ps F s i = [] := by rw [h0]; unfold outAt; rw [if_pos (by omega)]; rfl
                  rw [hacc, hpt, hst, e0]
                  exact app_mk [] _
                have g1 : ∀ W : World, (Op.stringOp .add acc pt).run Tryz.prog W = .ok (.string (acc ++ pt)) W := fun W => run_string_add_sum W _ _ (by omega)
                clear hst hacc hpt hsz1 hsz2 h0
                go_wp2_with fail
                refine Calls.mono HSI.out ?_
                rintro e w2 ⟨rfl, nd, rfl⟩
                have HB2 : Hid (Below W.heap.size W (wr.drewN nd)) := Go.below_drewN HB.out nd
                clear cc
                go_wp2
                go_roundw
                case rel => exact ⟨i + 1, by omega, by go_num, congrArg Value.string HA.out, HB2.out⟩
                case measure => (simp [intOf]; try omega)
              · rw [if_neg h0] at hst
                have HSTEP : Hid _ := hst
                have hpos : (0 : Int) < (i : Int) := by omega
                have hne0 : ((i : Int) == (F : Int) + (s : Int)) = false := by rw [beq_eq_false_iff_ne]; omega
                clear hst h0
                have HA : Hid (acc ++ ⟨#[58]⟩ ++ pt = ⟨(outAt ps F s (i + 1)).toArray⟩) := by
                  show _ = _
                  have e1 : (⟨(outAt ps F s i).toArray⟩ : ByteArray) ++ ⟨#[58]⟩ = ⟨(outAt ps F s i ++ [58]).toArray⟩ := app_mk _ [58]
                  rw [hacc, hpt, HSTEP.out, e1, app_mk]
                  simp
                have z58 : (⟨#[58]⟩ : ByteArray).size = 1 := rfl
                have g0 : ∀ W : World, (Op.stringOp .add acc ⟨#[58]⟩).run Tryz.prog W = .ok (.string (acc ++ ⟨#[58]⟩)) W := fun W => run_string_add_sum W _ _ (by omega)
                have g1 : ∀ W : World, (Op.stringOp .add (acc ++ ⟨#[58]⟩) pt).run Tryz.prog W = .ok (.string (acc ++ ⟨#[58]⟩ ++ pt)) W := fun W => run_string_add_sum W _ _ (by simp only [ByteArray.size_append]; omega)
                clear z58
                clear hacc hpt hsz1 hsz2
                go_wp2_with fail
                refine Calls.mono HSI.out ?_
                rintro e w2 ⟨rfl, nd, rfl⟩
                have HB2 : Hid (Below W.heap.size W (wr.drewN nd)) := Go.below_drewN HB.out nd
                clear cc
                go_wp2
                go_roundw
                case rel => exact ⟨i + 1, by omega, by go_num, congrArg Value.string HA.out, HB2.out⟩
                case measure => (simp [intOf]; try omega)
            · by_cases hB : i = F
              · have hst := outAt_b ps F s (by omega)
                have heq1 : ((i : Int) == (F : Int)) = true := by rw [beq_iff_eq]; omega
                have hge1 : (F : Int) ≤ (i : Int) := by omega
                have hlt2 : (i : Int) < (F : Int) + (s : Int) := by omega
                have HA : Hid (acc ++ ⟨#[58, 58]⟩ = ⟨(outAt ps F s (i + 1)).toArray⟩) := by
                  show _ = _
                  rw [hacc, hB, hst]
                  exact app_mk _ [58, 58]
                have z58 : (⟨#[58, 58]⟩ : ByteArray).size = 2 := rfl
                have g1 : ∀ W : World, (Op.stringOp .add acc ⟨#[58, 58]⟩).run Tryz.prog W = .ok (.string (acc ++ ⟨#[58, 58]⟩)) W := fun W => run_string_add_sum W _ _ (by omega)
                clear hst hacc hpt hsz1 hsz2 z58 hB hA HSI
                go_wp2
                go_roundw
                case rel => exact ⟨i + 1, by omega, by go_num, congrArg Value.string HA.out, HB.out⟩
                case measure => (simp [intOf]; try omega)
              · have hne1 : ((i : Int) == (F : Int)) = false := by rw [beq_eq_false_iff_ne]; omega
                have hge1 : (F : Int) ≤ (i : Int) := by omega
                by_cases hC : i < F + s
                · have hst := outAt_c ps F s i (by omega) hC
                  have hlt2 : (i : Int) < (F : Int) + (s : Int) := by omega
                  have HA : Hid (acc = ⟨(outAt ps F s (i + 1)).toArray⟩) := by show _ = _; rw [hacc, hst]
                  clear hst hacc hpt hsz1 hsz2 hB hA HSI hC
                  go_wp2
                  go_roundw
                  case rel => exact ⟨i + 1, by omega, by go_num, congrArg Value.string HA.out, HB.out⟩
                  case measure => (simp [intOf]; try omega)
                · have hst := outAt_de ps F s i (by omega) (by omega) hi2
                  have hlt2 : ¬ (i : Int) < (F : Int) + (s : Int) := by omega
                  have hpos : (0 : Int) < (i : Int) := by omega
                  by_cases hD : i = F + s
                  · rw [if_pos hD] at hst
                    have heq0 : ((i : Int) == (F : Int) + (s : Int)) = true := by rw [beq_iff_eq]; omega
                    have HA : Hid (acc ++ pt = ⟨(outAt ps F s (i + 1)).toArray⟩) := by
                      show _ = _
                      rw [hacc, hpt, hst]
                      exact app_mk _ _
                    have g1 : ∀ W : World, (Op.stringOp .add acc pt).run Tryz.prog W = .ok (.string (acc ++ pt)) W := fun W => run_string_add_sum W _ _ (by omega)
                    clear hst hacc hpt hsz1 hsz2 hB hA hC hD
                    go_wp2_with fail
                    refine Calls.mono HSI.out ?_
                    rintro e w2 ⟨rfl, nd, rfl⟩
                    have HB2 : Hid (Below W.heap.size W (wr.drewN nd)) := Go.below_drewN HB.out nd
                    clear cc
                    go_wp2
                    go_roundw
                    case rel => exact ⟨i + 1, by omega, by go_num, congrArg Value.string HA.out, HB2.out⟩
                    case measure => (simp [intOf]; try omega)
                  · rw [if_neg hD] at hst
                    have HSTEP : Hid _ := hst
                    have hne0 : ((i : Int) == (F : Int) + (s : Int)) = false := by rw [beq_eq_false_iff_ne]; omega
                    clear hst hB hA hC hD
                    have HA : Hid (acc ++ ⟨#[58]⟩ ++ pt = ⟨(outAt ps F s (i + 1)).toArray⟩) := by
                      show _ = _
                      have e1 : (⟨(outAt ps F s i).toArray⟩ : ByteArray) ++ ⟨#[58]⟩ = ⟨(outAt ps F s i ++ [58]).toArray⟩ := app_mk _ [58]
                      rw [hacc, hpt, HSTEP.out, e1, app_mk]
                      simp
                    have z58 : (⟨#[58]⟩ : ByteArray).size = 1 := rfl
                    have g0 : ∀ W : World, (Op.stringOp .add acc ⟨#[58]⟩).run Tryz.prog W = .ok (.string (acc ++ ⟨#[58]⟩)) W := fun W => run_string_add_sum W _ _ (by omega)
                    have g1 : ∀ W : World, (Op.stringOp .add (acc ++ ⟨#[58]⟩) pt).run Tryz.prog W = .ok (.string (acc ++ ⟨#[58]⟩ ++ pt)) W := fun W => run_string_add_sum W _ _ (by simp only [ByteArray.size_append]; omega)
                    clear z58
                    clear hacc hpt hsz1 hsz2
                    go_wp2_with fail
                    refine Calls.mono HSI.out ?_
                    rintro e w2 ⟨rfl, nd, rfl⟩
                    have HB2 : Hid (Below W.heap.size W (wr.drewN nd)) := Go.below_drewN HB.out nd
                    clear cc
                    go_wp2
                    go_roundw
                    case rel => exact ⟨i + 1, by omega, by go_num, congrArg Value.string HA.out, HB2.out⟩
                    case measure => (simp [intOf]; try omega)
          · have hie : i = 8 := by omega
            subst hie
            have HE : Hid _ := outAt_end ps F s hF8 h8 (by omega)
            clear hb
            go_wp2
            go_ret
            rw [HT.out, ← HE.out]
            exact ⟨rfl, HBW.out _ HB.out⟩
end Go.Proofs
/-
  What four of package moorref answers: an IP4 by its labels.
-/
namespace Go.Proofs
open Go.RowKit Go.Moor

theorem Tryz.infoInt : (Tryz.prog.info? 3).map (fun i => (i.zero, i.size, i.bytes)) = some (some (.int .i64 0), 1, 8) := by kernel_rfl

def ints (l : List Nat) : List Value := l.map fun n => Value.int .i64 (n : Nat)
theorem ints_app (a b : List Nat) : ints (a ++ b) = ints a ++ ints b := List.map_append

/-- What is told of an IP4's labels. -/
def FourRes (o : Option Int) (e : Ending) : Prop :=
  match o with
  | some n => e = .returned (.tuple #[.string ⟨(tell4 n.toNat).toArray⟩, .bool true])
  | none => e = .returned (.tuple #[.string ⟨#[]⟩, .bool false])

theorem sat_lt (base n d : Int) (hb : 2 ≤ base) (hb2 : base ≤ 16) (hn : 0 ≤ n) (hn2 : n ≤ 4294967296) (hd : 0 ≤ d) (hd2 : d ≤ 15) : wrap64 (n * base) = n * base ∧ wrap64 (n * base + d) = n * base + d ∧ 0 ≤ satNext base n d ∧ satNext base n d ≤ 4294967296 := by
  have h1 : 0 ≤ n * base := Int.mul_nonneg hn (by omega)
  have h2 : n * base ≤ 4294967296 * 16 := Int.mul_le_mul hn2 hb2 (by omega) (by omega)
  refine ⟨by unfold wrap64; omega, by unfold wrap64; omega, ?_, ?_⟩
  · unfold satNext; split <;> omega
  · unfold satNext; split <;> omega

set_option maxHeartbeats 16000000 in
set_option maxRecDepth 8000 in
theorem Tryz.rfour_any (ls : List Bs) (sp : Option Addr) (cap : Nat) (w : World) (hne : ls ≠ []) (hlc : ls.length ≤ 4001) (hlb : ∀ x ∈ ls, x.length ≤ 4000)
    (hrow : ∃ g, sp = some ⟨g, 0, none⟩ ∧ g < w.heap.size ∧ ∀ (j : Nat) x, ls[j]? = some x → w.cell? ⟨g, j, none⟩ = some (.string ⟨x.toArray⟩)) :
    Calls Tryz.prog 120 #[.slice sp ls.length cap] w fun e w' => FourRes (ip4 ls) e ∧ Below w.heap.size w w' := by
  obtain ⟨gl, rfl, hgl, hcl⟩ := hrow
  obtain ⟨i0, hi, hz0, hz1, hz2⟩ := info_parts Tryz.infoInt
  have HHX : Hid (∀ (c : UInt8) w1, Calls Tryz.prog 66 #[.int .u8 c.toNat] w1 fun e w' => e = .returned (.int .i64 (refHex c)) ∧ w' = w1) := fun c w1 => Tryz.rhex_any c w1
  have HDE : Hid (∀ (n : Nat) w1, n < 256 → Calls Tryz.prog 128 #[.int .i64 n] w1 fun e w' => e = .returned (.string ⟨(Lib.decDigits n).toArray⟩) ∧ Below w1.heap.size w1 w') := fun n w1 h => by
    have := Tryz.rdecimal_any 31 n w1 (by omega) (by omega) (by omega)
    rw [digs_dec 31 n (by omega)] at this
    exact this
  have HCL : Hid (∀ (j : Nat) x w1, Below w.heap.size w w1 → ls[j]? = some x → w1.cell? ⟨gl, j, none⟩ = some (.string ⟨x.toArray⟩)) := fun j x w1 b h => (b.cell (by exact hgl)).trans (hcl j x h)
  have HLB : Hid (∀ x ∈ ls, x.length ≤ 4000) := hlb
  clear hcl hlb
  suffices key : ∀ res : Option Int, Hid (res = ip4 ls) → Calls Tryz.prog 120 #[.slice (some ⟨gl, 0, none⟩) ls.length cap] w fun e w' => FourRes res e ∧ Below w.heap.size w w' from key _ rfl
  intro res HRES
  have hl1 : 0 < ls.length := List.length_pos_iff.2 hne
  by_cases h4 : 4 < ls.length
  · have HN : Hid (res = none) := by
      show _ = _
      rw [HRES.out]
      exact if_pos h4
    have h4i : (4 : Int) < (ls.length : Int) := by omega
    go_enter Tryz.func120, Tryz.ntmps120
    go_wp2
    go_ret2
    rw [HN.out]
    exact ⟨rfl, Below.refl _ _⟩
  have h4n : ls.length ≤ 4 := by omega
  clear h4 hlc hne
  go_enter Tryz.func120, Tryz.ntmps120
  go_wp2_with fail
  go_loopw [4, 5] (fun v i wr => ∃ (q : Nat) (bs : List Nat), q ≤ ls.length ∧ i = .int .i64 q ∧ bs.length ≤ 4 ∧ (∀ x ∈ bs, x < 256) ∧ FourInv ls q bs ∧ wr.ownsRow w.heap.size 3 1 v bs.length (ints bs) ∧ Below w.heap.size w wr) (fun _ i _ => ls.length - (intOf i).toNat)
  case atStart => exact ⟨0, [], Nat.zero_le _, rfl, Nat.zero_le _, (fun x h => by cases h), Or.inl ⟨hl1, 0, rfl, rfl⟩, World.ownsRow_nil _ _ _ _, Below.refl _ _⟩
  case round =>
    obtain ⟨q, bs, hq, rfl, hbl, hbx, hinv, hown, hb⟩ := hrel
    obtain ⟨spb, capb, rfl, _⟩ := own_shape hown
    have HBX : Hid (∀ x ∈ bs, x < 256) := hbx
    have HINV : Hid (FourInv ls q bs) := hinv
    have HO : Hid (wr.ownsRow w.heap.size 3 1 (.slice spb bs.length capb) bs.length (ints bs)) := hown
    have HB : Hid (Below w.heap.size w wr) := hb
    have hbz := hb.size
    clear hbx hinv hown hb
    by_cases hlt : q < ls.length
    · obtain ⟨x, hx⟩ : ∃ x, ls[q]? = some x := ⟨ls[q], List.getElem?_eq_getElem hlt⟩
      have cx := HCL.out q x wr HB.out hx
      have HXE : Hid (ls[q] = x) := (List.getElem?_eq_some_iff.1 hx).2
      have hxl := HLB.out x (List.mem_of_getElem? hx)
      obtain ⟨V, hV⟩ : ∃ V, V = wr := ⟨_, rfl⟩
      subst hV
      obtain ⟨xb, hxb⟩ : ∃ xb : ByteArray, xb = ⟨x.toArray⟩ := ⟨_, rfl⟩
      rw [← hxb] at cx
      have HXZ : Hid (xb.size = x.length) := by show _ = _; rw [hxb]; exact size_mk x
      have hxl2 : xb.size ≤ 4000 := by rw [HXZ.out]; exact hxl
      have HXT : Hid (∀ i j : Nat, xb.extract i j = ⟨((x.drop i).take (j - i)).toArray⟩) := by
        intro i j
        rw [hxb]
        exact extract_list _ i j
      have HXG : Hid (∀ (k : Nat) (h : k < xb.size) (h2 : k < x.length), x[k] = xb[k]) := by
        intro k h h2
        subst hxb
        rfl
      have HXM : Hid (xb.toList.isEmpty = x.isEmpty) := by
        show _ = _
        rw [hxb, Lib.toList_data]
      have hleft : fourLeft ls q ≤ 4 ∧ 1 ≤ fourLeft ls q := by unfold fourLeft; split <;> omega
      have HNO : Hid (anyBase (256 ^ fourLeft ls q - 1) x = none → res = none) := by
        intro h
        rw [HRES.out]
        exact four_no ls q bs hlt HINV.out (by rw [HXE.out]; exact h)
      have HYE : Hid (∀ m : Nat, anyBase (256 ^ fourLeft ls q - 1) x = some (m : Int) → m < 256 ^ fourLeft ls q → FourInv ls (q + 1) (bs ++ (leB (fourLeft ls q) m).reverse)) := fun m h h2 => four_ok ls q bs m hlt h4n HINV.out (by rw [HXE.out]; exact h) h2
      clear hx hxb hxl
      go_upto_region 9 with fail
      go_cut [38] from 21 to 111 (fun b wx => b = .bool (Lib.hasPrefix x [48, 120]) ∧ wx = V)
      case first =>
        by_cases h2 : xb.size < 2
        · have hi2 : ¬ (2 : Int) ≤ (xb.size : Int) := by omega
          have HPF : Hid (Lib.hasPrefix x [48, 120] = false) := by
            show _ = _
            match x, HXZ.out with
            | [], _ => simp [Lib.hasPrefix]
            | [a], _ => simp [Lib.hasPrefix, List.isPrefixOf]
            | a :: b :: r, hl => simp at hl; omega
          go_wp2
          go_meet
          exact ⟨by rw [HPF.out], rfl⟩
        · have hi3 : (2 : Int) ≤ (xb.size : Int) := by omega
          have hpx : ((xb.extract 0 2).toList == [48, 120]) = Lib.hasPrefix x [48, 120] := by
            rw [HXT.out 0 2, Lib.toList_data]
            show (List.take 2 (List.drop 0 x) == [48, 120]) = _
            match x, HXZ.out with
            | [], hl => simp only [List.length_nil] at hl; omega
            | [a], hl => simp only [List.length_cons, List.length_nil] at hl; omega
            | a :: b :: r, _ =>
              simp [Lib.hasPrefix]
              rw [Bool.eq_iff_iff]
              simp
              constructor
              · rintro ⟨rfl, rfl⟩; exact ⟨rfl, rfl⟩
              · rintro ⟨rfl, rfl⟩; exact ⟨rfl, rfl⟩
          generalize Lib.hasPrefix x [48, 120] = hp at *
          cases hp
          all_goals
            go_wp2
            go_meet
            exact ⟨rfl, rfl⟩
      case rest =>
      obtain ⟨rfl, hwc⟩ := hcut
      have hwc := hwc.symm
      subst hwc
      obtain ⟨db, hdb⟩ : ∃ db : ByteArray, db = ⟨(labelBase x).2.toArray⟩ := ⟨_, rfl⟩
      obtain ⟨ba, hba⟩ : ∃ ba, ba = (labelBase x).1 := ⟨_, rfl⟩
      go_upto_if 38 with fail
      go_cut [6, 7] from 21 to 111 (fun a b wx => a = .string db ∧ b = .int .i64 ba ∧ x ≠ [] ∧ wx = V)
      case first =>
        by_cases hxe : x = []
        · have HN : Hid (res = none) := HNO.out (by rw [hxe]; rfl)
          have hp : Lib.hasPrefix x [48, 120] = false := by rw [hxe]; rfl
          have hxe2 : xb.toList.isEmpty = true := by rw [HXM.out, hxe]; rfl
          generalize Lib.hasPrefix x [48, 120] = hpv at *
          subst hp
          clear hxe
          go_wp2
          go_ret2
          rw [HN.out]
          exact ⟨rfl, HB.out⟩
        · have hxe2 : xb.toList.isEmpty = false := by
            rw [HXM.out]
            cases x with
            | nil => exact absurd rfl hxe
            | cons => rfl
          have HXE2 : Hid (x ≠ []) := hxe
          cases hp : Lib.hasPrefix x [48, 120] with
          | true =>
            have e : labelBase x = (16, x.drop 2) := if_pos hp
            rw [e] at hdb hba
            have hx2 : (2 : Int) ≤ (xb.size : Int) := by
              match x, HXZ.out, hp with
              | [], _, h => simp [Lib.hasPrefix] at h
              | [a], _, h => simp [Lib.hasPrefix, List.isPrefixOf] at h
              | a :: b :: r, hl, _ => simp at hl; omega
            have HX : Hid (xb.extract 2 xb.size = db) := by
              show _ = _
              rw [HXT.out 2 xb.size, hdb, List.take_of_length_le (by have := HXZ.out; rw [List.length_drop]; omega)]
            have HBA : Hid (ba = 16) := hba
            clear e hdb hba hp hxe
            go_wp2
            go_meet
            exact ⟨congrArg Value.string HX.out, by rw [HBA.out], HXE2.out, rfl⟩
          | false =>
            by_cases h8 : 1 < x.length ∧ x.head? = some 48
            · have e : labelBase x = (8, x.drop 1) := by unfold labelBase; rw [if_neg (by simp [hp]), if_pos h8]
              rw [e] at hdb hba
              have hx2 : (1 : Int) < (xb.size : Int) := by have := HXZ.out; omega
              have h0 : 0 < xb.size := by omega
              have h00 : 0 < x.length := by have := HXZ.out; omega
              have h48 : ((xb[0].toNat : Int) == 48) = true := by
                have h1 := HXG.out 0 h0 h00
                have h2 := h8.2
                rw [List.head?_eq_getElem?, List.getElem?_eq_getElem h00, h1] at h2
                rw [Option.some.inj h2]
                rfl
              have HX : Hid (xb.extract 1 xb.size = db) := by
                show _ = _
                rw [HXT.out 1 xb.size, hdb, List.take_of_length_le (by have := HXZ.out; rw [List.length_drop]; omega)]
              have HBA : Hid (ba = 8) := hba
              clear e hdb hba hp h8 hxe
              go_wp2
              go_meet
              exact ⟨congrArg Value.string HX.out, by rw [HBA.out], HXE2.out, rfl⟩
            · have e : labelBase x = (10, x) := by unfold labelBase; rw [if_neg (by simp [hp]), if_neg h8]
              rw [e] at hdb hba
              have HX : Hid (xb = db) := by
                show _ = _
                have := HXT.out 0 xb.size
                rw [List.drop_zero, List.take_of_length_le (by have := HXZ.out; omega)] at this
                rw [hdb, ← this]
                exact (ByteArray.extract_zero_size).symm
              have HBA : Hid (ba = 10) := hba
              by_cases hx1 : 1 < xb.size
              · have hx2 : (1 : Int) < (xb.size : Int) := by omega
                have h0 : 0 < xb.size := by omega
                have h00 : 0 < x.length := by have := HXZ.out; omega
                have h48 : ((xb[0].toNat : Int) == 48) = false := by
                  rw [beq_eq_false_iff_ne]
                  intro h
                  refine h8 ⟨by have := HXZ.out; omega, ?_⟩
                  rw [List.head?_eq_getElem?, List.getElem?_eq_getElem h00, HXG.out 0 h0 h00]
                  exact congrArg some (UInt8.toNat_inj.1 (by show xb[0].toNat = 48; omega))
                clear e hdb hba hp h8 hxe
                go_wp2
                go_meet
                exact ⟨congrArg Value.string HX.out, by rw [HBA.out], HXE2.out, rfl⟩
              · have hx2 : ¬ (1 : Int) < (xb.size : Int) := by omega
                clear e hdb hba hp h8 hxe
                go_wp2
                go_meet
                exact ⟨congrArg Value.string HX.out, by rw [HBA.out], HXE2.out, rfl⟩
      case rest =>
      obtain ⟨rfl, rfl, hxe, hwc⟩ := hcut
      have hwc := hwc.symm
      subst hwc
      have HDB : Hid (db = ⟨(labelBase x).2.toArray⟩) := hdb
      have HBA : Hid (ba = (labelBase x).1) := hba
      have HXN : Hid (x ≠ []) := hxe
      clear hdb hba hxe
      obtain ⟨lf, hlf⟩ : ∃ lf, lf = fourLeft ls q := ⟨_, rfl⟩
      rw [← hlf] at hleft HNO HYE
      go_upto_if 57 with fail
      go_cut [8] from 21 to 111 (fun a wx => a = .int .i64 (lf : Nat) ∧ wx = V)
      case first =>
        by_cases hl : q + 1 = ls.length
        · have HL : Hid ((lf : Int) = 5 - (ls.length : Int)) := by
            show _ = _
            have : lf = 5 - ls.length := by rw [hlf]; exact if_pos hl
            omega
          have hqe : ((q : Int) == (ls.length : Int) - 1) = true := by rw [beq_iff_eq]; omega
          clear hlf hl
          go_wp2
          go_meet
          exact ⟨by rw [HL.out], rfl⟩
        · have HL : Hid ((lf : Int) = 1) := by
            show _ = _
            have : lf = 1 := by rw [hlf]; exact if_neg hl
            omega
          have hqe : ((q : Int) == (ls.length : Int) - 1) = false := by rw [beq_eq_false_iff_ne]; omega
          clear hlf hl
          go_wp2
          go_meet
          exact ⟨by rw [HL.out], rfl⟩
      case rest =>
      obtain ⟨rfl, hwc⟩ := hcut
      have hwc := hwc.symm
      subst hwc
      clear hlf HXT HXG HXM cx HXE HINV HLB
      obtain ⟨hl4, hl1'⟩ := hleft
      obtain ⟨dg, hdg⟩ : ∃ dg, dg = (labelBase x).2 := ⟨_, rfl⟩
      have hdz : db.size = dg.length := by rw [HDB.out, hdg]; exact size_mk _
      have HDG : Hid (∀ (k : Nat) (h : k < db.size) (h2 : k < dg.length), dg[k] = db[k]) := by
        intro k h h2
        have e := HDB.out
        rw [← hdg] at e
        subst e
        rfl
      have HBR := labelBase_range x
      rw [← HBA.out] at HBR
      have HBRH : Hid (2 ≤ ba ∧ ba ≤ 16) := HBR
      have HSN : Hid (satAcc ba 0 dg = none → res = none) := by
        intro h
        refine HNO.out (label_none x lf hl4 ?_)
        rw [← HBA.out, ← hdg]
        exact h
      have HSS : Hid (∀ m : Nat, satAcc ba 0 dg = some (m : Int) → anyBase (256 ^ lf - 1) x = if m < 256 ^ lf then some (m : Int) else none) := by
        intro m h
        refine label_some x lf hl4 HXN.out m ?_
        rw [← HBA.out, ← hdg]
        exact h
      have HDZ : Hid (db.size = dg.length) := hdz
      have hdl : db.size ≤ 4000 := by
        have h1 : dg.length ≤ x.length := by
          rw [hdg]
          unfold labelBase
          split
          · simp
          · split <;> simp
        have := HXZ.out
        omega
      clear hdz HBR hdg HDB HBA HXN HXZ hxl2
      go_wp2_with fail
      go_loopw [9, 10] (fun a i wr => ∃ (k : Nat) (m : Int), k ≤ db.size ∧ i = .int .i64 (k : Nat) ∧ a = .int .i64 m ∧ 0 ≤ m ∧ m ≤ 4294967296 ∧ satAcc ba m (dg.drop k) = satAcc ba 0 dg ∧ wr = V) (fun _ i _ => db.size - (intOf i).toNat)
      case atStart => exact ⟨0, 0, Nat.zero_le _, rfl, rfl, by omega, by omega, rfl, rfl⟩
      case round =>
        obtain ⟨k, m, hk, rfl, rfl, hm0, hm1, hsat, hwr⟩ := hrel
        have hwr := hwr.symm
        subst hwr
        have HSAT : Hid (satAcc ba m (dg.drop k) = satAcc ba 0 dg) := hsat
        have HM : Hid (0 ≤ m ∧ m ≤ 4294967296) := ⟨hm0, hm1⟩
        clear hsat hm0 hm1
        by_cases hkl : k < db.size
        · have h2 : k < dg.length := by rw [← HDZ.out]; exact hkl
          have hg := HDG.out k hkl h2
          have HST : Hid _ := sat_step ba m dg k h2
          rw [hg] at HST
          have HD : Hid _ := HHX.out db[k] V
          have hr16 := hexVal_range (db[k].toNat : Int)
          clear hg
          by_cases hv : hexVal db[k].toNat < ba
          · have hd := refHex_ok db[k] (by have := HBRH.out; omega)
            obtain ⟨d, hdd⟩ : ∃ d, d = refHex db[k] := ⟨_, rfl⟩
            rw [← hdd] at HD hd
            obtain ⟨P, hP⟩ : ∃ P, P = m * ba := ⟨_, rfl⟩
            obtain ⟨T, hT⟩ : ∃ T, T = P + d := ⟨_, rfl⟩
            have hsl := sat_lt ba m d HBRH.out.1 HBRH.out.2 HM.out.1 HM.out.2 hd.2.1 hd.2.2
            rw [← hP] at hsl
            rw [← hT] at hsl
            obtain ⟨hw1, hw2, hr0, hr1⟩ := hsl
            have HNX : Hid (satAcc ba (satNext ba m d) (dg.drop (k + 1)) = satAcc ba 0 dg) := by
              show _ = _
              have h1 := HST.out
              rw [if_pos hv] at h1
              rw [← HSAT.out, h1, hd.1]
            have HRG : Hid (0 ≤ satNext ba m d ∧ satNext ba m d ≤ 4294967296) := ⟨hr0, hr1⟩
            have hd0 : 0 ≤ d := hd.2.1
            have hdb' : d < ba := by rw [hd.1]; exact hv
            have hsn : satNext ba m d = if T > 4294967295 then 4294967296 else T := by
              unfold satNext
              rw [← hP, ← hT]
            have HSNX : Hid (satNext ba m d = if T > 4294967295 then 4294967296 else T) := hsn
            have hP2 : m * ba = P := hP.symm
            have hT2 : P + d = T := hT.symm
            clear hv hd hdd HST hsn hr0 hr1 hr16 hP hT HSN HSS
            by_cases hgt : (4294967295 : Int) < T
            · have HE : Hid (satNext ba m d = 4294967296) := by
                show _ = _
                rw [HSNX.out, if_pos hgt]
              rw [HE.out] at HNX HRG
              go_wp2_with fail
              refine Calls.mono HD.out ?_
              rintro e W0 ⟨rfl, hw0⟩
              have hw0 := hw0.symm
              subst hw0
              go_wp2
              go_roundw
              case rel => exact ⟨k + 1, _, by omega, by go_num, rfl, HRG.out.1, HRG.out.2, HNX.out, trivial⟩
              case measure => (simp [intOf]; try omega)
            · have HE : Hid (satNext ba m d = T) := by
                show _ = _
                rw [HSNX.out, if_neg hgt]
              rw [HE.out] at HNX HRG
              go_wp2_with fail
              refine Calls.mono HD.out ?_
              rintro e W0 ⟨rfl, hw0⟩
              have hw0 := hw0.symm
              subst hw0
              go_wp2
              go_roundw
              case rel => exact ⟨k + 1, T, by omega, by go_num, congrArg (Value.int .i64) hw2, HRG.out.1, HRG.out.2, HNX.out, trivial⟩
              case measure => (simp [intOf]; try omega)
          · have HRN : Hid (res = none) := HSN.out (by
              have h1 := HST.out
              rw [if_neg hv] at h1
              rw [← HSAT.out, h1])
            have hdd : refHex db[k] < 0 ∨ (0 ≤ refHex db[k] ∧ ba ≤ refHex db[k]) := by
              unfold refHex
              split
              · right; omega
              · left; omega
            generalize refHex db[k] = d at *
            clear hv HST hr16
            rcases hdd with hdd | ⟨hdd, hdd2⟩
            all_goals
              go_wp2_with fail
              refine Calls.mono HD.out ?_
              rintro e W0 ⟨rfl, hw0⟩
              have hw0 := hw0.symm
              subst hw0
              go_wp2
              go_ret2
              rw [HRN.out]
              exact ⟨rfl, HB.out⟩
        · have hke : k = db.size := by omega
          subst hke
          have HSE : Hid (satAcc ba 0 dg = some m) := by
            show _ = _
            rw [← HSAT.out, List.drop_eq_nil_of_le (by rw [← HDZ.out]; exact Nat.le_refl _)]
            rfl
          obtain ⟨M, hM⟩ : ∃ M : Nat, m = (M : Int) := ⟨m.toNat, by have := HM.out; omega⟩
          subst hM
          have HAB : Hid (anyBase (256 ^ lf - 1) x = if M < 256 ^ lf then some (M : Int) else none) := HSS.out M HSE.out
          have HMB : Hid (M ≤ 4294967296) := by have := HM.out.2; show M ≤ _; omega
          clear HSE HSS HSN HSAT HM HDG HHX
          go_wp2_with fail
          go_loopw [9, 12, 13] (fun a v i wr => ∃ k : Nat, k ≤ lf ∧ i = .int .i64 (k : Nat) ∧ a = .int .i64 ((M / 256 ^ k : Nat) : Int) ∧ wr.ownsRow V.heap.size 3 1 v k (ints (leB k M)) ∧ Below V.heap.size V wr) (fun _ _ i _ => lf - (intOf i).toNat)
          case atStart => exact ⟨0, Nat.zero_le _, rfl, by simp, World.ownsRow_nil _ _ _ _, Below.refl _ _⟩
          case round =>
            obtain ⟨k2, hk2, rfl, rfl, hown2, hb2⟩ := hrel
            have HLN : Hid ((leB k2 M).length = k2) := leB_len k2 M
            obtain ⟨spo, capo, rfl, _, _, hcello⟩ := own_shape hown2
            have HB2 : Hid (Below V.heap.size V wr) := hb2
            have HO2 : Hid (wr.ownsRow V.heap.size 3 1 (.slice spo k2 capo) k2 (ints (leB k2 M))) := hown2
            have HCO : Hid (0 < k2 → ∃ g, spo = some ⟨g, 0, none⟩ ∧ ∀ j u, (ints (leB k2 M))[j]? = some u → wr.cell? ⟨g, j, none⟩ = some u) := hcello
            have hbz2 := hb2.size
            clear hown2 hb2 hcello
            have HNX : Hid (M / 256 ^ k2 / 256 = M / 256 ^ (k2 + 1)) := leB_next k2 M
            have HLB2 : Hid (leB (k2 + 1) M = leB k2 M ++ [M / 256 ^ k2 % 256]) := rfl
            have HGR := leB_great k2 M
            have HGRH : Hid _ := HGR
            have hNle : M / 256 ^ k2 ≤ 4294967296 := Nat.le_trans (Nat.div_le_self _ _) HMB.out
            have HNLE : Hid (M / 256 ^ k2 ≤ 4294967296) := hNle
            obtain ⟨N, hN⟩ : ∃ N, N = M / 256 ^ k2 := ⟨_, rfl⟩
            rw [← hN] at HNX HLB2 HGRH HNLE ⊢
            clear HGR hNle hN
            by_cases hlt2 : k2 < lf
            · have HO4 := HO2.out.alloc (.cells #[.int .i64 ((N : Int) % 256)] 3)
              have hN0 : (0 : Int) ≤ (N : Int) := by omega
              go_wp2_with (at_builtin; refine wpList_append_lies _ rfl _ _ 33 rfl V.heap.size 3 i0 (.int .i64 0) 1 8 Tryz.underlying33 hi hz0 hz1 hz2 rfl (by decide) _ _ _ rfl HO4 ⟨wr.heap.size, 0, none⟩ 1 1 [.int .i64 ((N : Int) % 256)] rfl rfl ?c1 ?c2 (by decide) ?c3 ?c4 ?c5 _ rfl ?_)
              case c1 =>
                intro j u hj
                match j, hj with
                | 0, hj => simp at hj; subst hj; exact World.cell?_alloc_new wr #[.int .i64 ((N : Int) % 256)] 3 0
              case c2 => intro u hu; simp at hu; subst hu; rfl
              case c3 => unfold maxLen; omega
              case c4 => omega
              case c5 => simp; omega
              intro g cap3 w5 hown' hgrow hat hglt
              have HOW : Hid (w5.ownsRow V.heap.size 3 1 (.slice (some ⟨g, 0, none⟩) (k2 + 1) cap3) (k2 + 1) (ints (leB k2 M) ++ [.int .i64 ((N : Int) % 256)])) := hown'
              have HBN : Hid (Below V.heap.size V w5) := (HB2.out.alloc hbz2 _).grown hgrow (by simp; omega) (fun k hk => (HO4.lt k hk).1)
              clear hown' hgrow HO4 hat
              go_wp2
              go_roundw
              case rel =>
                refine ⟨k2 + 1, by omega, by go_num, ?_, ?_, HBN.out⟩
                · rw [← HNX.out]
                  have hn := HNLE.out
                  first
                    | rfl
                    | exact congrArg (Value.int .i64) (by omega)
                    | exact congrArg (Value.int .i64) (by unfold wrap64; omega)
                · rw [HLB2.out, ints_app]
                  have e : ints [N % 256] = [.int .i64 ((N : Int) % 256)] := by
                    unfold ints
                    simp
                  rw [e]
                  exact HOW.out
              case measure => (simp [intOf]; try omega)
            · have hke2 : lf = k2 := by omega
              subst hke2
              obtain ⟨gw, hgo, hco⟩ := HCO.out (by omega)
              subst hgo
              by_cases hpos : 0 < N
              · have HRN : Hid (res = none) := HNO.out (by rw [HAB.out, if_neg (HGRH.out.1 hpos)])
                have hposi : (0 : Int) < (N : Int) := by omega
                have HBE : Hid (Below w.heap.size w wr) := HB.out.trans (HB2.out.mono hbz)
                clear hpos hco
                go_wp2
                go_ret2
                rw [HRN.out]
                exact ⟨rfl, HBE.out⟩
              · have hMl : M < 256 ^ lf := Classical.not_not.1 (fun h => hpos (HGRH.out.2 h))
                have HFI : Hid (FourInv ls (q + 1) (bs ++ (leB lf M).reverse)) := HYE.out M (by rw [HAB.out, if_pos hMl]) hMl
                have hN0 : N = 0 := by omega
                subst hN0
                have HBLT : Hid (∀ y ∈ leB lf M, y < 256) := leB_lt lf M
                obtain ⟨ob, hob⟩ : ∃ ob, ob = leB lf M := ⟨_, rfl⟩
                rw [← hob] at HFI HLN HO2 HBLT
                have hgw : V.heap.size ≤ gw := (HO2.out.lt gw rfl).1
                have HNE : Hid ((Value.slice spb bs.length capb).ownBlock ≠ some gw) := by
                  intro h
                  have := (HO.out.lt gw h).2
                  omega
                obtain ⟨V2, hV2⟩ : ∃ V2, V2 = wr := ⟨_, rfl⟩
                subst hV2
                have HOB : Hid (V2.ownsRow w.heap.size 3 1 (.slice spb bs.length capb) bs.length (ints bs)) := own_below HO.out HB2.out
                have HBV : Hid (Below w.heap.size w V2) := HB.out.trans (HB2.out.mono hbz)
                have hlf0 : ¬ (0 : Int) < ((0 : Nat) : Int) := by decide
                clear hpos hMl HAB HGRH HNLE HLB2 HNX hob HO HB hco HCO HNO HYE
                go_wp2_with fail
                go_loopw [4, 14] (fun v i wr => ∃ k : Nat, k ≤ lf ∧ i = .int .i64 ((k : Int) - 1) ∧ wr.ownsRow w.heap.size 3 1 v (bs ++ (ob.drop k).reverse).length (ints (bs ++ (ob.drop k).reverse)) ∧ v.ownBlock ≠ some gw ∧ wr.ownsRow V.heap.size 3 1 (.slice (some ⟨gw, 0, none⟩) lf capo) lf (ints ob) ∧ V2.heap.size ≤ wr.heap.size ∧ Below w.heap.size w wr) (fun _ i _ => (intOf i + 1).toNat)
                case atStart =>
                  refine ⟨lf, Nat.le_refl _, rfl, ?_, HNE.out, HO2.out, Nat.le_refl _, HBV.out⟩
                  rw [List.drop_eq_nil_of_le (by rw [HLN.out]; exact Nat.le_refl _)]
                  simp only [List.reverse_nil, List.append_nil]
                  exact HOB.out
                case round =>
                  obtain ⟨k3, hk3, rfl, ho3, hne3, hoo3, hs3, hb3⟩ := hrel
                  have HL3 : Hid ((bs ++ (ob.drop k3).reverse).length = bs.length + (lf - k3)) := by
                    show _ = _
                    rw [List.length_append, List.length_reverse, List.length_drop, HLN.out]
                  obtain ⟨cs, hcs⟩ : ∃ cs, cs = bs ++ (ob.drop k3).reverse := ⟨_, rfl⟩
                  rw [← hcs] at ho3 HL3
                  have HCS : Hid (cs = bs ++ (ob.drop k3).reverse) := hcs
                  obtain ⟨sp3, cap3, rfl, _⟩ := own_shape ho3
                  have hco3 := hoo3.cells (g := gw) rfl
                  have HO3 : Hid (wr.ownsRow w.heap.size 3 1 (.slice sp3 cs.length cap3) cs.length (ints cs)) := ho3
                  have HNE3 : Hid ((Value.slice sp3 cs.length cap3).ownBlock ≠ some gw) := hne3
                  have HOO3 : Hid (wr.ownsRow V.heap.size 3 1 (.slice (some ⟨gw, 0, none⟩) lf capo) lf (ints ob)) := hoo3
                  have HB3 : Hid (Below w.heap.size w wr) := hb3
                  have hbz3 := hb3.size
                  have hgws : gw < V2.heap.size := (HO2.out.lt gw rfl).2
                  clear ho3 hne3 hoo3 hb3 hcs
                  by_cases hk0 : 0 < k3
                  · obtain ⟨k4, hk4⟩ : ∃ k4, k3 = k4 + 1 := ⟨k3 - 1, by omega⟩
                    subst hk4
                    have h4l : k4 < ob.length := by rw [HLN.out]; omega
                    obtain ⟨y, hy⟩ : ∃ y, y = ob[k4] := ⟨_, rfl⟩
                    have hcv : wr.cell? ⟨gw, k4, none⟩ = some (.int .i64 (y : Nat)) := by
                      rw [← add_zero_at]
                      refine hco3 k4 _ ?_
                      unfold ints
                      rw [List.getElem?_map, List.getElem?_eq_getElem h4l, hy]
                      rfl
                    have HDR : Hid (bs ++ (ob.drop k4).reverse = cs ++ [y]) := by
                      show _ = _
                      rw [List.drop_eq_getElem_cons h4l, List.reverse_cons, HCS.out, List.append_assoc, hy]
                    have hcast : (((k4 + 1 : Nat) : Int) - 1) = (k4 : Int) := by omega
                    rw [hcast]
                    clear hco3 hcast hy
                    have hk40 : (0 : Int) ≤ (k4 : Int) := by omega
                    have hcl3 : cs.length ≤ 8 := by rw [HL3.out]; omega
                    have HO4 := HO3.out.alloc (.cells #[.int .i64 (y : Nat)] 3)
                    have HOO4 := HOO3.out.alloc (.cells #[.int .i64 (y : Nat)] 3)
                    go_wp2_with (at_builtin; refine wpList_append_lies _ rfl _ _ 33 rfl w.heap.size 3 i0 (.int .i64 0) 1 8 Tryz.underlying33 hi hz0 hz1 hz2 rfl (by decide) _ _ _ rfl HO4 ⟨wr.heap.size, 0, none⟩ 1 1 [.int .i64 (y : Nat)] rfl rfl ?c1 ?c2 (by decide) ?c3 ?c4 ?c5 _ rfl ?_)
                    case c1 =>
                      intro j u hj
                      match j, hj with
                      | 0, hj => simp at hj; subst hj; exact World.cell?_alloc_new wr #[.int .i64 (y : Nat)] 3 0
                    case c2 => intro u hu; simp at hu; subst hu; rfl
                    case c3 => unfold maxLen; omega
                    case c4 => omega
                    case c5 => simp; omega
                    intro g cap5 w5 hown' hgrow hat hglt
                    have HOW : Hid (w5.ownsRow w.heap.size 3 1 (.slice (some ⟨g, 0, none⟩) (cs.length + 1) cap5) (cs.length + 1) (ints cs ++ [.int .i64 (y : Nat)])) := hown'
                    have HBN : Hid (Below w.heap.size w w5) := (HB3.out.alloc hbz3 _).grown hgrow (by simp; omega) (fun k hk => (HO4.lt k hk).1)
                    have HOO5 : Hid (w5.ownsRow V.heap.size 3 1 (.slice (some ⟨gw, 0, none⟩) lf capo) lf (ints ob)) := HOO4.kept hgrow (Or.inr (fun h => HNE3.out h.symm))
                    have HS5 : Hid (V2.heap.size ≤ w5.heap.size) := Nat.le_trans (Nat.le_trans hs3 (by simp)) hgrow.size
                    have HNE5 : Hid ((Value.slice (some ⟨g, 0, none⟩) (cs.length + 1) cap5).ownBlock ≠ some gw) := by
                      intro h
                      have hge : g = gw := Option.some.inj h
                      rcases hat with hat | hat
                      · exact HNE3.out (by rw [hat, hge])
                      · first
                          | omega
                          | (rw [hat, World.alloc] at hge; simp at hge; omega)
                    clear hown' hgrow HO4 HOO4 hat
                    go_wp2
                    go_roundw
                    case rel =>
                      refine ⟨k4, by omega, by go_num, ?_, HNE5.out, HOO5.out, HS5.out, HBN.out⟩
                      rw [HDR.out, List.length_append, ints_app]
                      exact HOW.out
                    case measure => (simp [intOf]; try omega)
                  · have hk30 : k3 = 0 := by omega
                    subst hk30
                    rw [List.drop_zero] at HCS
                    rw [← HCS.out] at HFI
                    obtain ⟨hf1, hf2⟩ := four_len ls (q + 1) cs HFI.out h4n
                    have HF2 : Hid (∀ x ∈ cs, x < 256) := hf2
                    have hm1 : (((0 : Nat) : Int) - 1) = -1 := by omega
                    rw [hm1]
                    clear hf2 hco3 hm1
                    go_wp2
                    go_roundw
                    case rel => exact ⟨q + 1, cs, by omega, by go_num, hf1, HF2.out, HFI.out, HO3.out, HB3.out⟩
                    case measure => (simp [intOf]; try omega)
    · have hqe : q = ls.length := by omega
      have hinv : ∃ N : Nat, ip4 ls = some (N : Int) ∧ bs = (leB 4 N).reverse := by
        rcases HINV.out with ⟨h, _⟩ | ⟨_, h⟩
        · omega
        · exact h
      obtain ⟨N, hN, hbs⟩ := hinv
      have HTL : Hid (dotRow bs = tell4 N) := by
        show _ = _
        rw [hbs]
        exact dotRow_tell N
      have hb4 : bs.length = 4 := by rw [hbs, List.length_reverse, leB_len]
      have HRS : Hid (res = some (N : Int)) := HRES.out.trans hN
      obtain ⟨sp', cap', hsp1, _, _, hsp4⟩ := own_shape HO.out
      injection hsp1 with hsp5 hsp6 hsp7
      rw [← hsp5] at hsp4
      obtain ⟨gb, hgb, hcb⟩ := hsp4 (by omega)
      clear hsp5 hsp6 hsp7
      subst hgb
      have HCB : Hid (∀ (j : Nat) (h : j < bs.length) w1, Below wr.heap.size wr w1 → w1.cell? ⟨gb, j, none⟩ = some (.int .i64 (bs[j] : Nat))) := by
        intro j h w1 b
        have hgl : gb < wr.heap.size := (HO.out.lt gb rfl).2
        rw [b.cell (by exact hgl)]
        refine hcb j _ ?_
        unfold ints
        rw [List.getElem?_map, List.getElem?_eq_getElem h]
        rfl
      obtain ⟨V, hV⟩ : ∃ V, V = wr := ⟨_, rfl⟩
      subst hV
      have c0 := HCB.out 0 (by omega) V (Below.refl _ _)
      have HB0 := HBX.out bs[0] (List.getElem_mem (by omega))
      have HD0 : Hid _ := HDE.out bs[0] V HB0
      have HONE : Hid (dotRow (bs.take 1) = Lib.decDigits bs[0]) := dotRow_one bs (by omega)
      have HDL := dotRow_len
      have HDLH : Hid (∀ k, (dotRow (bs.take k)).length ≤ 16) := by
        intro k
        have := dotRow_len (bs.take k) (fun x hx => HBX.out x (List.mem_of_mem_take hx))
        rw [List.length_take] at this
        omega
      clear hbs hN HINV HRES hcb HB0 HDL
      subst hqe
      generalize hb00 : bs[0] = b0 at *
      clear hb00
      go_wp2_with fail
      refine Calls.mono HD0.out ?_
      rintro e w2 ⟨rfl, bb⟩
      have HB2 : Hid (Below V.heap.size V w2) := bb
      clear bb HD0 c0
      go_wp2_with fail
      go_loopw [15, 16] (fun o i wr => ∃ k : Nat, 1 ≤ k ∧ k ≤ 4 ∧ i = .int .i64 (k : Nat) ∧ o = .string ⟨(dotRow (bs.take k)).toArray⟩ ∧ Below V.heap.size V wr) (fun _ i _ => 4 - (intOf i).toNat)
      case atStart => exact ⟨1, by omega, by omega, rfl, by rw [HONE.out], HB2.out⟩
      case round =>
        obtain ⟨k, hk1, hk, rfl, rfl, hb2⟩ := hrel
        have HB3 : Hid (Below V.heap.size V wr) := hb2
        by_cases hk4 : k < 4
        · have hki : (k : Int) < 4 := by omega
          have hk2 : k < bs.length := by omega
          have cc := HCB.out k hk2 wr hb2
          have hrs := dotRow_snoc bs k hk2 (by omega)
          have hb256 := HBX.out bs[k] (List.getElem_mem hk2)
          have hdl := dec_len bs[k] hb256
          have hsz1 : (⟨(dotRow (bs.take k)).toArray⟩ : ByteArray).size ≤ 16 := by rw [size_mk]; exact HDLH.out k
          have hsz2 : (⟨(Lib.decDigits bs[k]).toArray⟩ : ByteArray).size ≤ 3 := by rw [size_mk]; exact hdl
          have HA : Hid ((⟨(dotRow (bs.take k)).toArray⟩ : ByteArray) ++ ⟨#[46]⟩ ++ ⟨(Lib.decDigits bs[k]).toArray⟩ = ⟨(dotRow (bs.take (k + 1))).toArray⟩) := by
            show _ = _
            have e1 : (⟨(dotRow (bs.take k)).toArray⟩ : ByteArray) ++ ⟨#[46]⟩ = ⟨(dotRow (bs.take k) ++ [46]).toArray⟩ := app_mk _ [46]
            rw [e1, app_mk, hrs]
            simp
          have HDD : Hid _ := HDE.out bs[k] wr hb256
          generalize (⟨(dotRow (bs.take k)).toArray⟩ : ByteArray) = acc at *
          generalize (⟨(Lib.decDigits bs[k]).toArray⟩ : ByteArray) = pt at *
          generalize bs[k] = bk at *
          have z46 : (⟨#[46]⟩ : ByteArray).size = 1 := rfl
          have g0 : ∀ W : World, (Op.stringOp .add acc ⟨#[46]⟩).run Tryz.prog W = .ok (.string (acc ++ ⟨#[46]⟩)) W := fun W => run_string_add_sum W _ _ (by omega)
          have g1 : ∀ W : World, (Op.stringOp .add (acc ++ ⟨#[46]⟩) pt).run Tryz.prog W = .ok (.string (acc ++ ⟨#[46]⟩ ++ pt)) W := fun W => run_string_add_sum W _ _ (by simp only [ByteArray.size_append]; omega)
          clear hrs hdl hsz1 hsz2 z46 hb256 hb2
          go_wp2_with fail
          refine Calls.mono HDD.out ?_
          rintro e w3 ⟨rfl, bb⟩
          have HB4 : Hid (Below V.heap.size V w3) := HB3.out.trans (bb.mono HB3.out.size)
          clear cc bb
          go_wp2
          go_roundw
          case rel => exact ⟨k + 1, by omega, by omega, by go_num, congrArg Value.string HA.out, HB4.out⟩
          case measure => (simp [intOf]; try omega)
        · have hke : k = 4 := by omega
          subst hke
          have HTE : Hid (dotRow (bs.take 4) = tell4 N) := by
            show _ = _
            rw [List.take_of_length_le (by omega)]
            exact HTL.out
          have HBE : Hid (Below w.heap.size w wr) := HB.out.trans (HB3.out.mono hbz)
          clear hb2
          go_wp2
          go_ret2
          rw [HRS.out]
          refine ⟨?_, HBE.out⟩
          show _ = Ending.returned (.tuple #[.string ⟨(tell4 ((N : Int)).toNat).toArray⟩, .bool true])
          rw [HTE.out]
          rfl
end Go.Proofs
