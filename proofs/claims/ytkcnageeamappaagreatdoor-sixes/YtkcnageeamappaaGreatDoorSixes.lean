/-
  The walk of moorkeep.Sixes: it answers true for every row of numbers and every two numbers.
-/
import Derived.Test.YtkcnageeamappaaGreatDoorSxWalk
import Derived.Test.YtkcnageeamappaaGreatDoorSBrack
import Derived.Test.YtkcnageeamappaaGreatDoorFNum
import Derived.Test.YtkcnageeamappaaGreatDoorDrew
namespace Go.Proofs
open Go.RowKit Go.Moor

theorem Tryz.zero8i : (w : World) → ∀ j, j < 8 → (w.alloc (.cells #[.int .i64 0, .int .i64 0, .int .i64 0, .int .i64 0, .int .i64 0, .int .i64 0, .int .i64 0, .int .i64 0] 34)).cell? ⟨w.heap.size, j, none⟩ = some (.int .i64 0) := by
  intro w j hj
  rw [World.cell?_alloc_new]
  match j, hj with
  | 0, _ => rfl
  | 1, _ => rfl
  | 2, _ => rfl
  | 3, _ => rfl
  | 4, _ => rfl
  | 5, _ => rfl
  | 6, _ => rfl
  | 7, _ => rfl

set_option maxHeartbeats 4000000 in
set_option maxRecDepth 100000 in
theorem Tryz.Sixes_any (sp : Option Go.Addr) (cap : Nat) (xs : List Int) (fr n : Int) (w : World) (hx : ∀ x ∈ xs, -9223372036854775808 ≤ x ∧ x ≤ 9223372036854775807)
    (hcl : ∀ (j : Nat) x, xs[j]? = some x → ∃ a0 : Go.Addr, sp = some a0 ∧ a0.block < w.heap.size ∧ w.cell? (a0.add j) = some (.int .i64 x)) (hf0 : -(2 ^ 63) ≤ fr) (hf1 : fr < 2 ^ 63) (hn0 : -(2 ^ 63) ≤ n) (hn1 : n < 2 ^ 63) (henv : Tryz.Env w) (htz : Tryz.Tz w) :
    Calls Tryz.prog 5 #[.slice sp xs.length cap, .int .i64 fr, .int .i64 n] w fun e w' => e = .returned (.bool true) ∧ Below w.heap.size w w' := by
  have HC : Hid (∀ (j : Nat) x, xs[j]? = some x → ∃ a0 : Go.Addr, sp = some a0 ∧ a0.block < w.heap.size ∧ w.cell? (a0.add j) = some (.int .i64 x)) := hcl
  have HX : Hid (∀ x ∈ xs, -9223372036854775808 ≤ x ∧ x ≤ 9223372036854775807) := hx
  have HV : Hid (Tryz.Env w) := henv
  have HT : Hid (Tryz.Tz w) := htz
  clear hcl hx henv htz
  go_enter Tryz.func5, Tryz.ntmps5
  go_wp2
  go_loopw [8] (fun i wr => ∃ (q : Nat) (ns : List Nat), q ≤ 8 ∧ i = .int .i64 q ∧ ns.length = q ∧ (∀ k ∈ ns, k < 65536) ∧ (∀ j, j < 8 → wr.cell? ⟨w.heap.size, j, none⟩ = some (.int .i64 (nsAt ns j : Nat))) ∧ (∀ j, j < 8 → wr.frozen? ⟨w.heap.size, j, none⟩ = false) ∧ Below w.heap.size w wr ∧ w.heap.size < wr.heap.size) (fun i _ => 8 - (intOf i).toNat)
  case atStart =>
    refine ⟨0, [], by omega, rfl, rfl, by simp, fun j hj => Tryz.zero8i w j hj, fun j _ => World.frozen?_alloc_new _ _ _ _, (Below.refl _ w).alloc (Nat.le_refl _) _, by simp⟩
  case round =>
    obtain ⟨q, ns, hq, rfl, hnl, hns, hc, hf, hbw, hz⟩ := hrel
    have HCL : Hid (∀ j, j < 8 → wr.cell? ⟨w.heap.size, j, none⟩ = some (.int .i64 (nsAt ns j : Nat))) := hc
    have HF : Hid (∀ j, j < 8 → wr.frozen? ⟨w.heap.size, j, none⟩ = false) := hf
    have HNS : Hid (∀ k ∈ ns, k < 65536) := hns
    have HB : Hid (Below w.heap.size w wr) := hbw
    have HSAME : Hid (∀ j, nsAt (ns ++ [0]) j = nsAt ns j) := fun j => nsAt_zero ns j
    have HZ0 : Hid (∀ k ∈ ns ++ [0], k < 65536) := by
      intro k hk
      rcases List.mem_append.1 hk with hk | hk
      · exact hns k hk
      · simp at hk; omega
    clear hc hf hns hbw
    by_cases hlt : q < 8
    · by_cases hql : q < xs.length
      · obtain ⟨x, hx⟩ : ∃ x, xs[q]? = some x := ⟨xs[q]'hql, by simp⟩
        obtain ⟨a0, hsp, hab, hc0⟩ := HC.out q x hx
        have hcx : wr.cell? (a0.add q) = some (.int .i64 x) := (HB.out.cell (p := a0.add q) (by show (a0.add q).block < _; unfold Go.Addr.add; split <;> exact hab)).trans hc0
        subst hsp
        have hxr := HX.out x (List.mem_of_getElem? hx)
        clear hx
        by_cases h3 : x.tmod 3 = 0
        · go_wp2
          go_roundw
          case rel => exact ⟨q + 1, ns ++ [0], by omega, by go_num, by simp [hnl], HZ0.out, fun j hj => by rw [HSAME.out]; exact HCL.out j hj, HF.out, HB.out, hz⟩
          case measure => (simp [intOf]; try omega)
        · have hcq := HCL.out q hlt
          have hfq := HF.out q hlt
          go_wp2_with fail
          refine (Tryz.pickn_any x 65536 _ (by omega) (by omega) (by omega) (by omega)).mono ?_
          rintro e w2 ⟨⟨p, hp, rfl⟩, hw2⟩
          have hw2 := hw2.symm
          subst hw2
          go_wp2
          go_roundw
          case rel =>
            refine ⟨q + 1, ns ++ [p], by omega, by go_num, by simp [hnl], ?_, ?_, ?_, HB.out.setCell (Nat.le_refl _) _, by simpa using hz⟩
            · intro k hk
              rcases List.mem_append.1 hk with hk | hk
              · exact HNS.out k hk
              · simp at hk; omega
            · intro j hj
              by_cases hjq : j = q
              · subst hjq
                rw [World.cell?_setCell_same _ _ _ hcq, nsAt_new ns j p hnl]
              · rw [World.cell?_setCell_other _ _ _ _ (by intro h; cases h; exact hjq rfl), HCL.out j hj, nsAt_old ns j q p hnl hjq]
            · intro j hj
              rw [World.frozen?_setCell]
              exact HF.out j hj
          case measure => (simp [intOf]; try omega)
      · go_wp2
        go_roundw
        case rel => exact ⟨q + 1, ns ++ [0], by omega, by go_num, by simp [hnl], HZ0.out, fun j hj => by rw [HSAME.out]; exact HCL.out j hj, HF.out, HB.out, hz⟩
        case measure => (simp [intOf]; try omega)
    · have hq8 : ns.length = 8 := by omega
      have HCN : Hid (∀ j, j < 8 → wr.cell? ⟨w.heap.size, j, none⟩ = some (.int .i64 (nsAt ns j : Nat))) := HCL.out
      have HNL : Hid (∀ j, nsAt ns j < 65536) := fun j => by
        unfold nsAt
        cases h : ns[j]? with
        | none => simp
        | some k => exact HNS.out k (List.mem_of_getElem? h)
      obtain ⟨WL, hWL⟩ : ∃ WL, WL = (wholeRow ns).map (·.1) := ⟨_, rfl⟩
      have HWA : Hid (∀ j, j < 8 → WL[j]? = some (wholeTxt j (nsAt ns j))) := by
        intro j hj
        rw [hWL]
        exact whole_at ns j (by omega)
      have HW8 : Hid (WL.length = 8) := by show _ = _; rw [hWL]; simp [wholeRow, hq8]
      have HWE : Hid (WL = (wholeRow ns).map (·.1)) := hWL
      clear hWL HSAME HZ0 HCL
      go_wp2
      go_loopw [9, 10] (fun s i W => ∃ (q nd : Nat) (L : List UInt8), q ≤ 8 ∧ i = .int .i64 q ∧ s = .string ⟨L.toArray⟩ ∧ L = joinC (WL.take q) ∧ L.length ≤ 6 * q ∧ W = wr.drewN nd) (fun _ i _ => 8 - (intOf i).toNat)
      case atStart => exact ⟨0, 0, [], by omega, rfl, rfl, rfl, by simp, rfl⟩
      case round =>
        obtain ⟨q, nd, L, hq, rfl, rfl, hL, hLl, rfl⟩ := hrel
        have HL : Hid (L = joinC (WL.take q)) := hL
        clear hL
        by_cases hlt : q < 8
        · have hcq := HCN.out q hlt
          have hpn := HNL.out q
          have HJ : Hid (joinC (WL.take (q + 1)) = if q = 0 then wholeTxt q (nsAt ns q) else joinC (WL.take q) ++ 58 :: wholeTxt q (nsAt ns q)) := by
            show _ = _
            rw [List.take_add_one, HWA.out q hlt]
            exact joinC_snoc _ _ q (by rw [List.length_take, HW8.out]; omega)
          generalize nsAt ns q = pv at *
          have hdl := digs_len 16 3 pv
          have HDG : Hid (∀ W, Calls Tryz.prog 17 #[.int .i64 pv, .int .i64 16] W fun e w' => e = .returned (.string ⟨(digsF 16 3 pv).toArray⟩) ∧ ∃ nd, w' = W.drewN nd) := fun W => Tryz.digits16_any 3 pv W (by omega) hpn (by omega)
          have hq2 : (q : Int).tmod 2 = ((q % 2 : Nat) : Int) := by rw [Int.tmod_eq_emod_of_nonneg (by omega)]; omega
          by_cases h4 : (digsF 16 3 pv).length < 4
          · by_cases h2 : q % 2 = 0
            · have HWT : Hid (wholeTxt q pv = 48 :: digsF 16 3 pv) := by show _ = _; unfold wholeTxt; rw [if_pos ⟨h4, h2⟩]
              by_cases h0 : q = 0
              · have HIF : Hid ((if q = 0 then wholeTxt q pv else joinC (WL.take q) ++ 58 :: wholeTxt q pv) = joinC (WL.take q) ++ wholeTxt q pv) := by show _ = _; rw [if_pos h0, h0]; rfl
                subst h0
                go_wp2_with fail
                refine (HDG.out _).mono ?_
                rintro e w2 ⟨rfl, nd2, rfl⟩
                go_wp2
                go_roundw
                case rel =>
                  refine ⟨0 + 1, nd + nd2, L ++ (48 :: digsF 16 3 pv), by omega, by go_num, ?_, ?_, ?_, rfl⟩
                  · exact congrArg Value.string (sap2 L [48] (digsF 16 3 pv))
                  · rw [HJ.out, HIF.out, HWT.out, ← HL.out]
                    try simp
                  · simp
                    omega
                case measure => (simp [intOf]; try omega)
              · have HIF : Hid ((if q = 0 then wholeTxt q pv else joinC (WL.take q) ++ 58 :: wholeTxt q pv) = joinC (WL.take q) ++ 58 :: wholeTxt q pv) := if_neg h0
                have h0' : 0 < q := by omega
                go_wp2_with fail
                refine (HDG.out _).mono ?_
                rintro e w2 ⟨rfl, nd2, rfl⟩
                go_wp2
                go_roundw
                case rel =>
                  refine ⟨q + 1, nd + nd2, (L ++ [58]) ++ (48 :: digsF 16 3 pv), by omega, by go_num, ?_, ?_, ?_, rfl⟩
                  · exact congrArg Value.string (sap3 L [58] [48] (digsF 16 3 pv))
                  · rw [HJ.out, HIF.out, HWT.out, ← HL.out]
                    try simp
                  · simp
                    omega
                case measure => (simp [intOf]; try omega)
            · have HWT : Hid (wholeTxt q pv = digsF 16 3 pv) := by show _ = _; unfold wholeTxt; rw [if_neg (fun h => h2 h.2)]
              have h0 : ¬ q = 0 := by omega
              have HIF : Hid ((if q = 0 then wholeTxt q pv else joinC (WL.take q) ++ 58 :: wholeTxt q pv) = joinC (WL.take q) ++ 58 :: wholeTxt q pv) := if_neg h0
              have h0' : 0 < q := by omega
              go_wp2_with fail
              refine (HDG.out _).mono ?_
              rintro e w2 ⟨rfl, nd2, rfl⟩
              go_wp2
              go_roundw
              case rel =>
                refine ⟨q + 1, nd + nd2, (L ++ [58]) ++ digsF 16 3 pv, by omega, by go_num, ?_, ?_, ?_, rfl⟩
                · exact congrArg Value.string (sap1 L [58] (digsF 16 3 pv))
                · rw [HJ.out, HIF.out, HWT.out, ← HL.out]
                  try simp
                · simp
                  omega
              case measure => (simp [intOf]; try omega)
          · have HWT : Hid (wholeTxt q pv = digsF 16 3 pv) := by show _ = _; unfold wholeTxt; rw [if_neg (fun h => h4 h.1)]
            by_cases h0 : q = 0
            · have HIF : Hid ((if q = 0 then wholeTxt q pv else joinC (WL.take q) ++ 58 :: wholeTxt q pv) = joinC (WL.take q) ++ wholeTxt q pv) := by show _ = _; rw [if_pos h0, h0]; rfl
              subst h0
              go_wp2_with fail
              refine (HDG.out _).mono ?_
              rintro e w2 ⟨rfl, nd2, rfl⟩
              go_wp2
              go_roundw
              case rel =>
                refine ⟨0 + 1, nd + nd2, L ++ digsF 16 3 pv, by omega, by go_num, ?_, ?_, ?_, rfl⟩
                · exact congrArg Value.string (app_mk L (digsF 16 3 pv))
                · rw [HJ.out, HIF.out, HWT.out, ← HL.out]
                  try simp
                · simp
                  omega
              case measure => (simp [intOf]; try omega)
            · have HIF : Hid ((if q = 0 then wholeTxt q pv else joinC (WL.take q) ++ 58 :: wholeTxt q pv) = joinC (WL.take q) ++ 58 :: wholeTxt q pv) := if_neg h0
              have h0' : 0 < q := by omega
              go_wp2_with fail
              refine (HDG.out _).mono ?_
              rintro e w2 ⟨rfl, nd2, rfl⟩
              go_wp2
              go_roundw
              case rel =>
                refine ⟨q + 1, nd + nd2, (L ++ [58]) ++ digsF 16 3 pv, by omega, by go_num, ?_, ?_, ?_, rfl⟩
                · exact congrArg Value.string (sap1 L [58] (digsF 16 3 pv))
                · rw [HJ.out, HIF.out, HWT.out, ← HL.out]
                  try simp
                · simp
                  omega
              case measure => (simp [intOf]; try omega)
        · have hq88 : q = 8 := by omega
          have HWN : Hid (∀ k ∈ ns, k < 65536) := HNS.out
          have HLW : Hid (L = joinC ((wholeRow ns).map (·.1))) := by
            show _ = _
            rw [HL.out, hq88, List.take_of_length_le (by rw [HW8.out]; omega), HWE.out]
          have HBR : Hid (Below w.heap.size w (wr.drewN nd)) := drew_on HB.out nd
          have HVR : Hid (Tryz.Env (wr.drewN nd)) := HV.out.below HBR.out
          have HTR : Hid (Tryz.Tz (wr.drewN nd)) := HT.out.below HBR.out (by have := HV.out.size; omega)
          have HNM : Hid (∀ k ∈ ns, k < 65536) := HWN.out
          have hwl := want_len ns hq8 HWN.out
          have HW1 : Hid (bracketed (joinC ((wholeRow ns).map (·.1)) ++ [93]) = some (sixWant ns)) := want_whole ns hq8 HWN.out
          have HW2 : Hid (∀ a b, a < b → b ≤ 8 → (∀ j, a ≤ j → j < b → nsAt ns j = 0) → bracketed ((gapL ns a 8 ++ 58 :: 58 :: gapR ns b 8) ++ [93]) = some (sixWant ns)) := fun a b => gap_want ns a b hq8 HWN.out
          have HW3 : Hid (bracketed ((colons (ns.take 6) ++ tell4 (nsAt ns 6 * 65536 + nsAt ns 7)) ++ [93]) = some (sixWant ns)) := dots_want ns hq8 HWN.out
          have HW4 : Hid (bracketed ((sixWant ns).drop 1) = some (sixWant ns)) := want_told ns hq8 HWN.out
          have HW5 : Hid (ccCount (sixWant ns) = if (noughts ns 0 0 0 0).2 < 2 then 0 else 1) := want_short ns HWN.out
          have HW6 : Hid (∀ c ∈ sixWant ns, c.toNat < 65 ∨ 70 < c.toNat) := want_small ns HWN.out
          have HW7 : Hid ((sixWant ns).head? = some 91) := rfl
          generalize sixWant ns = want at *
          obtain ⟨hw4, hw100⟩ := hwl
          have hsz : (⟨want.toArray⟩ : ByteArray).size = want.length := size_mk want
          have HDT : Hid ((⟨want.toArray⟩ : ByteArray).data.toList = want) := rfl
          have HGB : Hid (∀ (q : Nat) (h : q < (⟨want.toArray⟩ : ByteArray).size), want[q]? = some ((⟨want.toArray⟩ : ByteArray)[q]'h)) := fun q h => by
            rw [List.getElem?_eq_getElem (by rw [← hsz]; exact h)]
            rfl
          have HH4 : Hid (∀ W, Tryz.Env W → Tryz.Tz W → Calls Tryz.prog 18 #[.string ⟨want.toArray⟩, .bool true] W fun e w' => e = .returned (.tuple #[.string ⟨want.toArray⟩, .int .i64 0]) ∧ Below W.heap.size W w') := by
            intro W hv ht
            have := Tryz.Host_bracket ⟨want.toArray⟩ true W hv ht (by rw [hsz]; omega) (by rw [hsz]; omega) (by
              have h7 := HW7.out
              show Lib.hasPrefix want [91] = true
              cases want with
              | nil => simp at h7
              | cons c r => simp at h7; subst h7; simp [Lib.hasPrefix, List.isPrefixOf])
            rw [show bracketed (((⟨want.toArray⟩ : ByteArray).data.toList).drop 1) = some want from HW4.out] at this
            exact this
          have HHB : Hid (∀ (t : List UInt8) (sp : Bool) W, Tryz.Env W → Tryz.Tz W → t.length ≤ 1000 → bracketed (t ++ [93]) = some want → Calls Tryz.prog 18 #[.string ⟨(([91] ++ t) ++ [93]).toArray⟩, .bool sp] W fun e w' => e = .returned (.tuple #[.string ⟨want.toArray⟩, .int .i64 0]) ∧ Below W.heap.size W w') := by
            intro t sp W hv ht hl hbr
            have := Tryz.Host_bracket ⟨(([91] ++ t) ++ [93]).toArray⟩ sp W hv ht (by rw [size_mk]; simp; omega) (by rw [size_mk]; simp) (by simp [Lib.hasPrefix, List.isPrefixOf])
            have e2 : bracketed (((⟨(([91] ++ t) ++ [93]).toArray⟩ : ByteArray).data.toList).drop 1) = some want := by
              show bracketed (t ++ [93]) = _
              exact hbr
            rw [e2] at this
            exact this
          have HH1 : Hid (Calls Tryz.prog 18 #[.string ((⟨#[91]⟩ ++ ⟨L.toArray⟩) ++ ⟨#[93]⟩), .bool true] (wr.drewN nd) fun e w' => e = .returned (.tuple #[.string ⟨want.toArray⟩, .int .i64 0]) ∧ Below (wr.drewN nd).heap.size (wr.drewN nd) w') := by
            rw [show ((⟨#[91]⟩ : ByteArray) ++ ⟨L.toArray⟩) ++ ⟨#[93]⟩ = ⟨(([91] ++ L) ++ [93]).toArray⟩ from sap1 [91] L [93]]
            exact HHB.out L true _ HVR.out HTR.out (by omega) (by rw [HLW.out]; exact HW1.out)
          have HSZ : Hid (w.heap.size < (wr.drewN nd).heap.size) := hz
          have HCD : Hid (∀ j, j < 8 → (wr.drewN nd).cell? ⟨w.heap.size, j, none⟩ = some (.int .i64 (nsAt ns j : Nat))) := HCN.out
          clear HWA HW8 HWE HNS HF HC HX HCN HW1 HWN HW7 HW4
          go_wp2_with fail
          refine HH1.out.mono ?_
          rintro e w3 ⟨rfl, hb3⟩
          have HB3 : Hid (Below w.heap.size w w3) := HBR.out.trans (hb3.mono (Nat.le_of_lt HSZ.out))
          have HC3 : Hid (∀ j, j < 8 → w3.cell? ⟨w.heap.size, j, none⟩ = some (.int .i64 (nsAt ns j : Nat))) := fun j hj => (hb3.cell (p := ⟨w.heap.size, j, none⟩) HSZ.out).trans (HCD.out j hj)
          have HZ3 : Hid (w.heap.size < w3.heap.size) := Nat.lt_of_lt_of_le HSZ.out hb3.size
          clear hb3 HCD HH1 HBR HVR HTR HLW HL hLl
          go_wp2_with fail
          refine (Tryz.pickn_any fr 8 _ hf0 hf1 (by omega) (by omega)).mono ?_
          rintro e w4 ⟨⟨a, ha, rfl⟩, hw4'⟩
          have hw4' := hw4'.symm
          subst hw4'
          go_wp2_with fail
          refine (Tryz.pickn_any n (8 - (a : Int)) _ hn0 hn1 (by omega) (by omega)).mono ?_
          rintro e w4 ⟨⟨d, hd, rfl⟩, hw4'⟩
          have hw4' := hw4'.symm
          subst hw4'
          obtain ⟨B, hB⟩ : ∃ B : Nat, B = a + 1 + d := ⟨_, rfl⟩
          have hB8 : B ≤ 8 := by omega
          have haB : a < B := by omega
          have HG : Hid (∀ q, q < 8 → (q < a → gapL ns a (q + 1) = if q = 0 then digsF 16 3 (nsAt ns q) else gapL ns a q ++ 58 :: digsF 16 3 (nsAt ns q)) ∧ (a ≤ q → gapL ns a (q + 1) = gapL ns a q) ∧ (q < B → gapR ns B (q + 1) = gapR ns B q) ∧ (B ≤ q → gapR ns B (q + 1) = if q = B then digsF 16 3 (nsAt ns q) else gapR ns B q ++ 58 :: digsF 16 3 (nsAt ns q)) ∧ (q ≤ B → gapR ns B q = []) ∧ (B < q → gapR ns B q ≠ [])) := by
            intro q hq
            exact ⟨gapL_in ns a q hq8 hq, gapL_out ns a q, fun h => by rw [gapR_out ns B _ h, gapR_out ns B q (by omega)], gapR_in ns B q hq8 hq, gapR_out ns B q, gapR_ne ns B q hq8 HNM.out (by omega)⟩
          go_wp2_with fail
          go_loopw [16, 17, 18, 19] (fun l r f i W => ∃ (q nd : Nat) (fb : Bool), q ≤ 8 ∧ i = .int .i64 q ∧ l = .string ⟨(gapL ns a q).toArray⟩ ∧ r = .string ⟨(gapR ns B q).toArray⟩ ∧ f = .bool fb ∧ (fb = true → ∀ j, a ≤ j → j < B → j < q → nsAt ns j = 0) ∧ W = w3.drewN nd) (fun _ _ _ i _ => 8 - (intOf i).toNat)
          case atStart =>
            refine ⟨0, 0, true, by omega, rfl, ?_, ?_, rfl, fun _ j _ _ h => by omega, rfl⟩
            · rw [gapL_zero]
            · rw [gapR_out _ _ _ (by omega)]
          case round =>
            obtain ⟨q, nd3, fb, hq, rfl, rfl, rfl, rfl, hfit, rfl⟩ := hrel
            have hll := gapL_len ns a q
            have hrl := gapR_len ns B q
            by_cases hlt : q < 8
            · have hcq := HC3.out q hlt
              have hpn := HNL.out q
              obtain ⟨g1, g2, g3, g4, g5, g6⟩ := HG.out q hlt
              have HFIT : Hid (fb = true → ∀ j, a ≤ j → j < B → j < q → nsAt ns j = 0) := hfit
              have HFN : Hid (nsAt ns q = 0 → fb = true → ∀ j, a ≤ j → j < B → j < q + 1 → nsAt ns j = 0) := by
                intro h0 hf j h1 h2 h3
                by_cases e : j = q
                · rw [e, h0]
                · exact hfit hf j h1 h2 (by omega)
              have HFO : Hid (¬ (a ≤ q ∧ q < B) → fb = true → ∀ j, a ≤ j → j < B → j < q + 1 → nsAt ns j = 0) := by
                intro h0 hf j h1 h2 h3
                exact hfit hf j h1 h2 (by omega)
              clear hfit
              have G1 : Hid _ := g1
              have G2 : Hid _ := g2
              have G3 : Hid _ := g3
              have G4 : Hid _ := g4
              have G5 : Hid _ := g5
              have G6 : Hid _ := g6
              clear g1 g2 g3 g4 g5 g6
              generalize nsAt ns q = pv at *
              have hdl := digs_len 16 3 pv
              have HDG : Hid (∀ W, Calls Tryz.prog 17 #[.int .i64 pv, .int .i64 16] W fun e w' => e = .returned (.string ⟨(digsF 16 3 pv).toArray⟩) ∧ ∃ nd, w' = W.drewN nd) := fun W => Tryz.digits16_any 3 pv W (by omega) hpn (by omega)
              by_cases hqa : q < a
              · have HR : Hid (gapR ns B (q + 1) = gapR ns B q) := G3.out (by omega)
                have HL2 : Hid (gapL ns a (q + 1) = if q = 0 then digsF 16 3 pv else gapL ns a q ++ 58 :: digsF 16 3 pv) := G1.out hqa
                have HF2 : Hid (fb = true → ∀ j, a ≤ j → j < B → j < q + 1 → nsAt ns j = 0) := HFO.out (by omega)
                clear G1 G2 G3 G4 G5 G6
                generalize gapL ns a q = L3 at *
                generalize gapR ns B q = R3 at *
                by_cases h0 : q = 0
                · have HL3 : Hid (gapL ns a (q + 1) = digsF 16 3 pv) := by show _ = _; rw [HL2.out, if_pos h0]
                  subst h0
                  go_wp2_with fail
                  refine (HDG.out _).mono ?_
                  rintro e w2 ⟨rfl, nd2, rfl⟩
                  go_wp2
                  go_roundw
                  case rel =>
                    refine ⟨0 + 1, nd3 + nd2, fb, by omega, by go_num, ?_, ?_, rfl, HF2.out, rfl⟩
                    · rw [HL3.out]
                    · rw [HR.out]
                  case measure => (simp [intOf]; try omega)
                · have HL3 : Hid (gapL ns a (q + 1) = L3 ++ 58 :: digsF 16 3 pv) := by show _ = _; rw [HL2.out, if_neg h0]
                  have h0' : 0 < q := by omega
                  go_wp2_with fail
                  refine (HDG.out _).mono ?_
                  rintro e w2 ⟨rfl, nd2, rfl⟩
                  go_wp2
                  go_roundw
                  case rel =>
                    refine ⟨q + 1, nd3 + nd2, fb, by omega, by go_num, ?_, ?_, rfl, HF2.out, rfl⟩
                    · rw [HL3.out]
                      exact (congrArg Value.string (sap1 L3 [58] (digsF 16 3 pv))).trans (by simp)
                    · rw [HR.out]
                  case measure => (simp [intOf]; try omega)
              · have HL2 : Hid (gapL ns a (q + 1) = gapL ns a q) := G2.out (by omega)
                have hqa' : a ≤ q := by omega
                by_cases hqB : q < B
                · have HR : Hid (gapR ns B (q + 1) = gapR ns B q) := G3.out (by omega)
                  clear G1 G2 G3 G4 G5 G6
                  generalize gapL ns a q = L3 at *
                  generalize gapR ns B q = R3 at *
                  by_cases hz : pv = 0
                  · have hzb : ((pv : Int) == 0) = true := by simp [hz]
                    have HF2 : Hid (fb = true → ∀ j, a ≤ j → j < B → j < q + 1 → nsAt ns j = 0) := HFN.out hz
                    clear hz
                    cases fb with
                    | true =>
                      go_wp2_with fail
                      refine (HDG.out _).mono ?_
                      rintro e w2 ⟨rfl, nd2, rfl⟩
                      go_wp2
                      go_roundw
                      case rel =>
                        refine ⟨q + 1, nd3 + nd2, true, by omega, by go_num, ?_, ?_, ?_, (fun _ => HF2.out (by first | exact rfl | trivial)), rfl⟩
                        · rw [HL2.out]
                        · rw [HR.out]
                        · first | rfl | rw [hzb]
                      case measure => (simp [intOf]; try omega)
                    | false =>
                      go_wp2_with fail
                      refine (HDG.out _).mono ?_
                      rintro e w2 ⟨rfl, nd2, rfl⟩
                      go_wp2
                      go_roundw
                      case rel =>
                        refine ⟨q + 1, nd3 + nd2, false, by omega, by go_num, ?_, ?_, rfl, (fun h => by cases h), rfl⟩
                        · rw [HL2.out]
                        · rw [HR.out]
                      case measure => (simp [intOf]; try omega)
                  · have hzb : ((pv : Int) == 0) = false := by simp [hz]
                    clear hz
                    cases fb with
                    | true =>
                      go_wp2_with fail
                      refine (HDG.out _).mono ?_
                      rintro e w2 ⟨rfl, nd2, rfl⟩
                      go_wp2
                      go_roundw
                      case rel =>
                        refine ⟨q + 1, nd3 + nd2, false, by omega, by go_num, ?_, ?_, ?_, (fun h => by cases h), rfl⟩
                        · rw [HL2.out]
                        · rw [HR.out]
                        · first | rfl | rw [hzb]
                      case measure => (simp [intOf]; try omega)
                    | false =>
                      go_wp2_with fail
                      refine (HDG.out _).mono ?_
                      rintro e w2 ⟨rfl, nd2, rfl⟩
                      go_wp2
                      go_roundw
                      case rel =>
                        refine ⟨q + 1, nd3 + nd2, false, by omega, by go_num, ?_, ?_, rfl, (fun h => by cases h), rfl⟩
                        · rw [HL2.out]
                        · rw [HR.out]
                      case measure => (simp [intOf]; try omega)
                · have HR : Hid (gapR ns B (q + 1) = if q = B then digsF 16 3 pv else gapR ns B q ++ 58 :: digsF 16 3 pv) := G4.out (by omega)
                  have HF2 : Hid (fb = true → ∀ j, a ≤ j → j < B → j < q + 1 → nsAt ns j = 0) := HFO.out (by omega)
                  by_cases heq : q = B
                  · have HR3 : Hid (gapR ns B (q + 1) = digsF 16 3 pv) := by show _ = _; rw [HR.out, if_pos heq]
                    have hR0 : gapR ns B q = [] := G5.out (by omega)
                    have hge : a + 1 + d ≤ q := by omega
                    have he : (⟨([] : List UInt8).toArray⟩ : ByteArray).toList.isEmpty = true := by rw [Lib.toList_data]; rfl
                    clear G1 G2 G3 G4 G5 G6 HR heq hB
                    rw [hR0]
                    clear hR0
                    generalize gapL ns a q = L3 at *
                    go_wp2_with fail
                    refine (HDG.out _).mono ?_
                    rintro e w2 ⟨rfl, nd2, rfl⟩
                    go_wp2
                    go_roundw
                    case rel =>
                      refine ⟨q + 1, nd3 + nd2, fb, by omega, by go_num, ?_, ?_, rfl, HF2.out, rfl⟩
                      · rw [HL2.out]
                      · rw [HR3.out]
                    case measure => (simp [intOf]; try omega)
                  · have HR3 : Hid (gapR ns B (q + 1) = gapR ns B q ++ 58 :: digsF 16 3 pv) := by show _ = _; rw [HR.out, if_neg heq]
                    have hR0 : gapR ns B q ≠ [] := G6.out (by omega)
                    clear G1 G2 G3 G4 G5 G6 HR
                    generalize gapL ns a q = L3 at *
                    generalize gapR ns B q = R3 at *
                    have he : (⟨R3.toArray⟩ : ByteArray).toList.isEmpty = false := by
                      rw [Lib.toList_data]
                      show R3.isEmpty = false
                      cases R3 with
                      | nil => exact absurd rfl hR0
                      | cons c r => rfl
                    have he2 : R3.isEmpty = false := by
                      cases R3 with
                      | nil => exact absurd rfl hR0
                      | cons c r => rfl
                    have he3 : R3.toArray.isEmpty = false := by
                      cases R3 with
                      | nil => exact absurd rfl hR0
                      | cons c r => rfl
                    go_wp2_with fail
                    refine (HDG.out _).mono ?_
                    rintro e w2 ⟨rfl, nd2, rfl⟩
                    go_wp2
                    go_roundw
                    case rel =>
                      refine ⟨q + 1, nd3 + nd2, fb, by omega, by go_num, ?_, ?_, rfl, HF2.out, rfl⟩
                      · rw [HL2.out]
                      · rw [HR3.out]
                        exact (congrArg Value.string (sap1 R3 [58] (digsF 16 3 pv))).trans (by simp)
                    case measure => (simp [intOf]; try omega)
            · have hq8' : q = 8 := by omega
              subst hq8'
              have HFIT : Hid (fb = true → bracketed ((gapL ns a 8 ++ 58 :: 58 :: gapR ns B 8) ++ [93]) = some want) := fun hf => HW2.out a B haB hB8 (fun j h1 h2 => hfit hf j h1 h2 (by omega))
              clear hfit HG HW2
              generalize gapL ns a 8 = L8 at *
              generalize gapR ns B 8 = R8 at *
              have HBD : Hid (Below w.heap.size w (w3.drewN nd3)) := drew_on HB3.out nd3
              have HCD : Hid (∀ j, j < 8 → (w3.drewN nd3).cell? ⟨w.heap.size, j, none⟩ = some (.int .i64 (nsAt ns j : Nat))) := HC3.out
              have HZD : Hid (w.heap.size < (w3.drewN nd3).heap.size) := HZ3.out
              have HGO : Hid (∀ w5, Below w.heap.size w w5 → (∀ j, j < 8 → w5.cell? ⟨w.heap.size, j, none⟩ = some (.int .i64 (nsAt ns j : Nat))) → w.heap.size < w5.heap.size → True) := fun _ _ _ _ => trivial
              clear HGO
              have HH2 : Hid (fb = true → Calls Tryz.prog 18 #[.string ((((⟨#[91]⟩ ++ ⟨L8.toArray⟩) ++ ⟨#[58, 58]⟩) ++ ⟨R8.toArray⟩) ++ ⟨#[93]⟩), .bool false] (w3.drewN nd3) fun e w' => e = .returned (.tuple #[.string ⟨want.toArray⟩, .int .i64 0]) ∧ Below (w3.drewN nd3).heap.size (w3.drewN nd3) w') := by
                intro hf
                have e5 : (((((⟨#[91]⟩ : ByteArray) ++ ⟨L8.toArray⟩) ++ ⟨#[58, 58]⟩) ++ ⟨R8.toArray⟩) ++ ⟨#[93]⟩) = ⟨(([91] ++ (L8 ++ 58 :: 58 :: R8)) ++ [93]).toArray⟩ := by
                  refine (sap5 [91] L8 [58, 58] R8 [93]).trans ?_
                  simp
                rw [e5]
                exact HHB.out (L8 ++ 58 :: 58 :: R8) false _ (HV.out.below HBD.out) (HT.out.below HBD.out (by have := HV.out.size; omega)) (by simp; omega) (HFIT.out hf)
              clear HFIT
              have HNS2 : Hid (ns.length = 8) := hq8
              cases fb with
              | true =>
                go_wp2_with fail
                refine (HH2.out (by first | exact rfl | trivial)).mono ?_
                rintro e w5 ⟨rfl, hb5⟩
                have HB5 : Hid (Below w.heap.size w w5) := HBD.out.trans (hb5.mono (Nat.le_of_lt HZD.out))
                have HC5 : Hid (∀ j, j < 8 → w5.cell? ⟨w.heap.size, j, none⟩ = some (.int .i64 (nsAt ns j : Nat))) := fun j hj => (hb5.cell (p := ⟨w.heap.size, j, none⟩) HZD.out).trans (HCD.out j hj)
                have HZ5 : Hid (w.heap.size < w5.heap.size) := Nat.lt_of_lt_of_le HZD.out hb5.size
                clear hb5 HBD HCD HZD HH2 HB3 HC3 HZ3
                go_wp2_with fail
                go_loopw [23, 24] (fun h i W => ∃ (q nd : Nat), q ≤ 6 ∧ i = .int .i64 q ∧ h = .string ⟨(colons (ns.take q)).toArray⟩ ∧ W = w5.drewN nd) (fun _ i _ => 6 - (intOf i).toNat)
                case atStart => exact ⟨0, 0, by omega, rfl, rfl, rfl⟩
                case round =>
                  obtain ⟨q, nd5, hq5, rfl, rfl, rfl⟩ := hrel
                  have hcl5 := colons_len ns q
                  by_cases hlt5 : q < 6
                  · have hcq := HC5.out q (by omega)
                    have hpn := HNL.out q
                    have HNX : Hid (colons (ns.take (q + 1)) = (colons (ns.take q) ++ digsF 16 3 (nsAt ns q)) ++ [58]) := colons_next ns q (by omega)
                    generalize nsAt ns q = pv at *
                    generalize colons (ns.take q) = C at *
                    have hdl := digs_len 16 3 pv
                    have HDG : Hid (∀ W, Calls Tryz.prog 17 #[.int .i64 pv, .int .i64 16] W fun e w' => e = .returned (.string ⟨(digsF 16 3 pv).toArray⟩) ∧ ∃ nd, w' = W.drewN nd) := fun W => Tryz.digits16_any 3 pv W (by omega) hpn (by omega)
                    go_wp2_with fail
                    refine (HDG.out _).mono ?_
                    rintro e w6 ⟨rfl, nd6, rfl⟩
                    go_wp2
                    go_roundw
                    case rel =>
                      refine ⟨q + 1, nd5 + nd6, by omega, by go_num, ?_, rfl⟩
                      rw [HNX.out]
                      exact congrArg Value.string (sap1 C (digsF 16 3 pv) [58])
                    case measure => (simp [intOf]; try omega)
                  · have hq6 : q = 6 := by omega
                    subst hq6
                    have hc6 := HC5.out 6 (by omega)
                    have hc7 := HC5.out 7 (by omega)
                    have hp6 := HNL.out 6
                    have hp7 := HNL.out 7
                    have HW3' : Hid (bracketed ((colons (ns.take 6) ++ tell4 (nsAt ns 6 * 65536 + nsAt ns 7)) ++ [93]) = some want) := HW3.out
                    have HNT : Hid (∀ i, ns[i]? = some 0 → ns[i + 1]? = some 0 → (noughts ns 0 0 0 0).2 < 2 → False) := fun i h0 h1 h2 => no_two ns h2 i h0 h1
                    have HNA : Hid (∀ i, i < 8 → ns[i]? = some (nsAt ns i)) := fun i hi => nsAt_some ns i (by rw [HNS2.out]; exact hi)
                    have HC8 : Hid (∀ j, j < 8 → w5.cell? ⟨w.heap.size, j, none⟩ = some (.int .i64 (nsAt ns j : Nat))) := HC5.out
                    clear HW3 HC5
                    generalize nsAt ns 6 = p6 at hc6 hp6 HW3'
                    generalize nsAt ns 7 = p7 at hc7 hp7 HW3'
                    generalize colons (ns.take 6) = C at *
                    have HDO : Hid (∀ W, Calls Tryz.prog 15 #[.int .i64 ((p6 : Int) * 65536 + p7)] W fun e w' => e = .returned (.string ⟨(tell4 (p6 * 65536 + p7)).toArray⟩) ∧ ∃ nd, w' = W.drewN nd) := by
                      intro W
                      have := Tryz.dotted_any (p6 * 65536 + p7) W (by omega)
                      rw [show ((p6 * 65536 + p7 : Nat) : Int) = (p6 : Int) * 65536 + p7 by omega] at this
                      exact this
                    have htl := tell4_len (p6 * 65536 + p7)
                    generalize tell4 (p6 * 65536 + p7) = D at *
                    have HH3 : Hid (∀ W, Tryz.Env W → Tryz.Tz W → Calls Tryz.prog 18 #[.string (((⟨#[91]⟩ ++ ⟨C.toArray⟩) ++ ⟨D.toArray⟩) ++ ⟨#[93]⟩), .bool true] W fun e w' => e = .returned (.tuple #[.string ⟨want.toArray⟩, .int .i64 0]) ∧ Below W.heap.size W w') := by
                      intro W hv ht
                      have e5 : ((((⟨#[91]⟩ : ByteArray) ++ ⟨C.toArray⟩) ++ ⟨D.toArray⟩) ++ ⟨#[93]⟩) = ⟨(([91] ++ (C ++ D)) ++ [93]).toArray⟩ := by
                        refine (sap4 [91] C D [93]).trans ?_
                        simp
                      rw [e5]
                      exact HHB.out (C ++ D) true W hv ht (by simp; omega) HW3'.out
                    go_wp2_with fail
                    refine (HDO.out _).mono ?_
                    rintro e w6 ⟨rfl, nd6, rfl⟩
                    have HB6 : Hid (Below w.heap.size w (w5.drewN (nd5 + nd6))) := drew_on HB5.out (nd5 + nd6)
                    have HC6 : Hid (∀ j, j < 8 → (w5.drewN (nd5 + nd6)).cell? ⟨w.heap.size, j, none⟩ = some (.int .i64 (nsAt ns j : Nat))) := HC8.out
                    have HZ6 : Hid (w.heap.size < (w5.drewN (nd5 + nd6)).heap.size) := HZ5.out
                    have HH3' : Hid (Calls Tryz.prog 18 #[.string (((⟨#[91]⟩ ++ ⟨C.toArray⟩) ++ ⟨D.toArray⟩) ++ ⟨#[93]⟩), .bool true] (w5.drewN (nd5 + nd6)) fun e w' => e = .returned (.tuple #[.string ⟨want.toArray⟩, .int .i64 0]) ∧ Below (w5.drewN (nd5 + nd6)).heap.size (w5.drewN (nd5 + nd6)) w') := HH3.out _ (HV.out.below HB6.out) (HT.out.below HB6.out (by have := HV.out.size; omega))
                    clear HH3 HDO HC8
                    go_wp2_with fail
                    refine HH3'.out.mono ?_
                    rintro e w7 ⟨rfl, hb7⟩
                    have HB7 : Hid (Below w.heap.size w w7) := HB6.out.trans (hb7.mono (Nat.le_of_lt HZ6.out))
                    have HC7 : Hid (∀ j, j < 8 → w7.cell? ⟨w.heap.size, j, none⟩ = some (.int .i64 (nsAt ns j : Nat))) := fun j hj => (hb7.cell (p := ⟨w.heap.size, j, none⟩) HZ6.out).trans (HC6.out j hj)
                    have HZ7 : Hid (w.heap.size < w7.heap.size) := Nat.lt_of_lt_of_le HZ6.out hb7.size
                    have HH4' : Hid (Calls Tryz.prog 18 #[.string ⟨want.toArray⟩, .bool true] w7 fun e w' => e = .returned (.tuple #[.string ⟨want.toArray⟩, .int .i64 0]) ∧ Below w7.heap.size w7 w') := HH4.out w7 (HV.out.below HB7.out) (HT.out.below HB7.out (by have := HV.out.size; omega))
                    clear hb7 HB6 HC6 HZ6 HH3' hc6 hc7 hp6 hp7 HB5 HZ5
                    go_wp2_with fail
                    refine HH4'.out.mono ?_
                    rintro e w8 ⟨rfl, hb8⟩
                    have HB8 : Hid (Below w.heap.size w w8) := HB7.out.trans (hb8.mono (Nat.le_of_lt HZ7.out))
                    have HC8 : Hid (∀ j, j < 8 → w8.cell? ⟨w.heap.size, j, none⟩ = some (.int .i64 (nsAt ns j : Nat))) := fun j hj => (hb8.cell (p := ⟨w.heap.size, j, none⟩) HZ7.out).trans (HC7.out j hj)
                    clear hb8 HB7 HC7 HZ7 HH4'
                    go_wp2_with fail
                    go_loop [30, 31] (fun s i => ∃ q : Nat, q + 1 ≤ want.length ∧ i = .int .i64 q ∧ s = .int .i64 (ccCount (want.take (q + 1)) : Nat)) (fun _ i => want.length - (intOf i).toNat)
                    case atStart => exact ⟨0, by omega, rfl, by rw [ccCount_short]; rfl⟩
                    case round =>
                      obtain ⟨q, hq9, rfl, rfl⟩ := hrel
                      by_cases hlt9 : q + 1 < want.length
                      · have hi0 : q < (⟨want.toArray⟩ : ByteArray).size := by omega
                        have hi1 : q + 1 < (⟨want.toArray⟩ : ByteArray).size := by omega
                        have HX : Hid (ccCount (want.take (q + 2)) = ccCount (want.take (q + 1)) + (if (⟨want.toArray⟩ : ByteArray)[q] = 58 ∧ (⟨want.toArray⟩ : ByteArray)[q + 1] = 58 then 1 else 0)) := ccCount_next want q _ _ (HGB.out q hi0) (HGB.out (q + 1) hi1)
                        have hsm := HW6.out _ (List.mem_of_getElem? (HGB.out q hi0))
                        have hcc : ccCount (want.take (q + 1)) ≤ 1000 := by
                          have := ccCount_le (want.take (q + 1))
                          rw [List.length_take] at this
                          omega
                        have HX1 : Hid ((⟨want.toArray⟩ : ByteArray)[q].toNat = 58 → (⟨want.toArray⟩ : ByteArray)[q + 1].toNat = 58 → ccCount (want.take (q + 2)) = ccCount (want.take (q + 1)) + 1) := by
                          intro h1 h2
                          rw [HX.out, if_pos ⟨UInt8.toNat_inj.1 h1, UInt8.toNat_inj.1 h2⟩]
                        have HX0 : Hid (¬ ((⟨want.toArray⟩ : ByteArray)[q].toNat = 58 ∧ (⟨want.toArray⟩ : ByteArray)[q + 1].toNat = 58) → ccCount (want.take (q + 2)) = ccCount (want.take (q + 1))) := by
                          intro h
                          rw [HX.out, if_neg (fun x => h ⟨by rw [x.1]; rfl, by rw [x.2]; rfl⟩)]
                          omega
                        clear HX
                        generalize ccCount (want.take (q + 1)) = cc at *
                        by_cases h1 : (⟨want.toArray⟩ : ByteArray)[q].toNat = 58
                        · by_cases h2 : (⟨want.toArray⟩ : ByteArray)[q + 1].toNat = 58
                          · have HE : Hid (ccCount (want.take (q + 2)) = cc + 1) := HX1.out h1 h2
                            go_wp2
                            go_round
                            case rel => exact ⟨q + 1, by omega, by go_num, by rw [HE.out]; go_num⟩
                            case measure => (simp [intOf]; try omega)
                          · have HE : Hid (ccCount (want.take (q + 2)) = cc) := HX0.out (fun x => h2 x.2)
                            go_wp2
                            go_round
                            case rel => exact ⟨q + 1, by omega, by go_num, by rw [HE.out]⟩
                            case measure => (simp [intOf]; try omega)
                        · have HE : Hid (ccCount (want.take (q + 2)) = cc) := HX0.out (fun x => h1 x.1)
                          rcases hsm with hsm | hsm
                          · go_wp2
                            go_round
                            case rel => exact ⟨q + 1, by omega, by go_num, by rw [HE.out]⟩
                            case measure => (simp [intOf]; try omega)
                          · go_wp2
                            go_round
                            case rel => exact ⟨q + 1, by omega, by go_num, by rw [HE.out]⟩
                            case measure => (simp [intOf]; try omega)
                      · have HCW : Hid (ccCount (want.take (q + 1)) = if (noughts ns 0 0 0 0).2 < 2 then 0 else 1) := by
                          show _ = _
                          rw [List.take_of_length_le (by omega)]
                          exact HW5.out
                        by_cases hN : (noughts ns 0 0 0 0).2 < 2
                        · have hcw : ccCount (want.take (q + 1)) = 0 := by rw [HCW.out, if_pos hN]
                          rw [hcw]
                          clear hcw HCW
                          go_wp2_with fail
                          go_loop [29, 32] (fun z i => ∃ q : Nat, q ≤ 7 ∧ i = .int .i64 q ∧ z = .int .i64 0) (fun _ i => 8 - (intOf i).toNat)
                          case atStart => exact ⟨0, by omega, rfl, rfl⟩
                          case round =>
                            obtain ⟨r, hr7, rfl, rfl⟩ := hrel
                            by_cases hlt7 : r < 7
                            · have hcr := HC8.out r (by omega)
                              have hcr1 := HC8.out (r + 1) (by omega)
                              have hp1 := HNL.out r
                              have hp2 := HNL.out (r + 1)
                              have HNO : Hid (nsAt ns r = 0 → nsAt ns (r + 1) = 0 → False) := fun h0 h1 => HNT.out r (by rw [HNA.out r (by omega), h0]) (by rw [HNA.out (r + 1) (by omega), h1]) hN
                              generalize nsAt ns r = pr at *
                              generalize nsAt ns (r + 1) = pr1 at *
                              by_cases hz : pr = 0
                              · have hz1 : ¬ pr1 = 0 := fun h => HNO.out hz h
                                go_wp2
                                go_round
                                case rel => exact ⟨r + 1, by omega, by go_num, rfl⟩
                                case measure => (simp [intOf]; try omega)
                              · go_wp2
                                go_round
                                case rel => exact ⟨r + 1, by omega, by go_num, rfl⟩
                                case measure => (simp [intOf]; try omega)
                            · go_wp2
                              go_ret
                              exact ⟨by simp, HB8.out⟩
                        · have hcw : ccCount (want.take (q + 1)) = 1 := by rw [HCW.out, if_neg hN]
                          rw [hcw]
                          clear hcw HCW
                          go_wp2
                          go_ret
                          exact ⟨by simp, HB8.out⟩
              | false =>
                have HB5 : Hid (Below w.heap.size w w3) := HB3.out
                have HC5 : Hid (∀ j, j < 8 → w3.cell? ⟨w.heap.size, j, none⟩ = some (.int .i64 (nsAt ns j : Nat))) := HC3.out
                have HZ5 : Hid (w.heap.size < w3.heap.size) := HZ3.out
                clear HBD HCD HZD HH2 HB3 HC3 HZ3
                go_wp2_with fail
                go_loopw [23, 24] (fun h i W => ∃ (q nd : Nat), q ≤ 6 ∧ i = .int .i64 q ∧ h = .string ⟨(colons (ns.take q)).toArray⟩ ∧ W = w3.drewN nd) (fun _ i _ => 6 - (intOf i).toNat)
                case atStart => exact ⟨0, nd3, by omega, rfl, rfl, rfl⟩
                case round =>
                  obtain ⟨q, nd5, hq5, rfl, rfl, rfl⟩ := hrel
                  have hcl5 := colons_len ns q
                  by_cases hlt5 : q < 6
                  · have hcq := HC5.out q (by omega)
                    have hpn := HNL.out q
                    have HNX : Hid (colons (ns.take (q + 1)) = (colons (ns.take q) ++ digsF 16 3 (nsAt ns q)) ++ [58]) := colons_next ns q (by omega)
                    generalize nsAt ns q = pv at *
                    generalize colons (ns.take q) = C at *
                    have hdl := digs_len 16 3 pv
                    have HDG : Hid (∀ W, Calls Tryz.prog 17 #[.int .i64 pv, .int .i64 16] W fun e w' => e = .returned (.string ⟨(digsF 16 3 pv).toArray⟩) ∧ ∃ nd, w' = W.drewN nd) := fun W => Tryz.digits16_any 3 pv W (by omega) hpn (by omega)
                    go_wp2_with fail
                    refine (HDG.out _).mono ?_
                    rintro e w6 ⟨rfl, nd6, rfl⟩
                    go_wp2
                    go_roundw
                    case rel =>
                      (repeat apply Exists.intro)
                      refine ⟨⟨q + 1, nd5 + nd6, by omega, by go_num, ?_, rfl⟩, rfl⟩
                      rw [HNX.out]
                      exact congrArg Value.string (sap1 C (digsF 16 3 pv) [58])
                    case measure => (simp [intOf]; try omega)
                  · have hq6 : q = 6 := by omega
                    subst hq6
                    have hc6 := HC5.out 6 (by omega)
                    have hc7 := HC5.out 7 (by omega)
                    have hp6 := HNL.out 6
                    have hp7 := HNL.out 7
                    have HW3' : Hid (bracketed ((colons (ns.take 6) ++ tell4 (nsAt ns 6 * 65536 + nsAt ns 7)) ++ [93]) = some want) := HW3.out
                    have HNT : Hid (∀ i, ns[i]? = some 0 → ns[i + 1]? = some 0 → (noughts ns 0 0 0 0).2 < 2 → False) := fun i h0 h1 h2 => no_two ns h2 i h0 h1
                    have HNA : Hid (∀ i, i < 8 → ns[i]? = some (nsAt ns i)) := fun i hi => nsAt_some ns i (by rw [HNS2.out]; exact hi)
                    have HC8 : Hid (∀ j, j < 8 → w3.cell? ⟨w.heap.size, j, none⟩ = some (.int .i64 (nsAt ns j : Nat))) := HC5.out
                    clear HW3 HC5
                    generalize nsAt ns 6 = p6 at hc6 hp6 HW3'
                    generalize nsAt ns 7 = p7 at hc7 hp7 HW3'
                    generalize colons (ns.take 6) = C at *
                    have HDO : Hid (∀ W, Calls Tryz.prog 15 #[.int .i64 ((p6 : Int) * 65536 + p7)] W fun e w' => e = .returned (.string ⟨(tell4 (p6 * 65536 + p7)).toArray⟩) ∧ ∃ nd, w' = W.drewN nd) := by
                      intro W
                      have := Tryz.dotted_any (p6 * 65536 + p7) W (by omega)
                      rw [show ((p6 * 65536 + p7 : Nat) : Int) = (p6 : Int) * 65536 + p7 by omega] at this
                      exact this
                    have htl := tell4_len (p6 * 65536 + p7)
                    generalize tell4 (p6 * 65536 + p7) = D at *
                    have HH3 : Hid (∀ W, Tryz.Env W → Tryz.Tz W → Calls Tryz.prog 18 #[.string (((⟨#[91]⟩ ++ ⟨C.toArray⟩) ++ ⟨D.toArray⟩) ++ ⟨#[93]⟩), .bool true] W fun e w' => e = .returned (.tuple #[.string ⟨want.toArray⟩, .int .i64 0]) ∧ Below W.heap.size W w') := by
                      intro W hv ht
                      have e5 : ((((⟨#[91]⟩ : ByteArray) ++ ⟨C.toArray⟩) ++ ⟨D.toArray⟩) ++ ⟨#[93]⟩) = ⟨(([91] ++ (C ++ D)) ++ [93]).toArray⟩ := by
                        refine (sap4 [91] C D [93]).trans ?_
                        simp
                      rw [e5]
                      exact HHB.out (C ++ D) true W hv ht (by simp; omega) HW3'.out
                    go_wp2_with fail
                    refine (HDO.out _).mono ?_
                    rintro e w6 ⟨rfl, nd6, rfl⟩
                    have HB6 : Hid (Below w.heap.size w (w3.drewN (nd5 + nd6))) := drew_on HB5.out (nd5 + nd6)
                    have HC6 : Hid (∀ j, j < 8 → (w3.drewN (nd5 + nd6)).cell? ⟨w.heap.size, j, none⟩ = some (.int .i64 (nsAt ns j : Nat))) := HC8.out
                    have HZ6 : Hid (w.heap.size < (w3.drewN (nd5 + nd6)).heap.size) := HZ5.out
                    have HH3' : Hid (Calls Tryz.prog 18 #[.string (((⟨#[91]⟩ ++ ⟨C.toArray⟩) ++ ⟨D.toArray⟩) ++ ⟨#[93]⟩), .bool true] (w3.drewN (nd5 + nd6)) fun e w' => e = .returned (.tuple #[.string ⟨want.toArray⟩, .int .i64 0]) ∧ Below (w3.drewN (nd5 + nd6)).heap.size (w3.drewN (nd5 + nd6)) w') := HH3.out _ (HV.out.below HB6.out) (HT.out.below HB6.out (by have := HV.out.size; omega))
                    clear HH3 HDO HC8
                    go_wp2_with fail
                    refine HH3'.out.mono ?_
                    rintro e w7 ⟨rfl, hb7⟩
                    have HB7 : Hid (Below w.heap.size w w7) := HB6.out.trans (hb7.mono (Nat.le_of_lt HZ6.out))
                    have HC7 : Hid (∀ j, j < 8 → w7.cell? ⟨w.heap.size, j, none⟩ = some (.int .i64 (nsAt ns j : Nat))) := fun j hj => (hb7.cell (p := ⟨w.heap.size, j, none⟩) HZ6.out).trans (HC6.out j hj)
                    have HZ7 : Hid (w.heap.size < w7.heap.size) := Nat.lt_of_lt_of_le HZ6.out hb7.size
                    have HH4' : Hid (Calls Tryz.prog 18 #[.string ⟨want.toArray⟩, .bool true] w7 fun e w' => e = .returned (.tuple #[.string ⟨want.toArray⟩, .int .i64 0]) ∧ Below w7.heap.size w7 w') := HH4.out w7 (HV.out.below HB7.out) (HT.out.below HB7.out (by have := HV.out.size; omega))
                    clear hb7 HB6 HC6 HZ6 HH3' hc6 hc7 hp6 hp7 HB5 HZ5
                    go_wp2_with fail
                    refine HH4'.out.mono ?_
                    rintro e w8 ⟨rfl, hb8⟩
                    have HB8 : Hid (Below w.heap.size w w8) := HB7.out.trans (hb8.mono (Nat.le_of_lt HZ7.out))
                    have HC8 : Hid (∀ j, j < 8 → w8.cell? ⟨w.heap.size, j, none⟩ = some (.int .i64 (nsAt ns j : Nat))) := fun j hj => (hb8.cell (p := ⟨w.heap.size, j, none⟩) HZ7.out).trans (HC7.out j hj)
                    clear hb8 HB7 HC7 HZ7 HH4'
                    go_wp2_with fail
                    go_loop [30, 31] (fun s i => ∃ q : Nat, q + 1 ≤ want.length ∧ i = .int .i64 q ∧ s = .int .i64 (ccCount (want.take (q + 1)) : Nat)) (fun _ i => want.length - (intOf i).toNat)
                    case atStart => exact ⟨0, by omega, rfl, by rw [ccCount_short]; rfl⟩
                    case round =>
                      obtain ⟨q, hq9, rfl, rfl⟩ := hrel
                      by_cases hlt9 : q + 1 < want.length
                      · have hi0 : q < (⟨want.toArray⟩ : ByteArray).size := by omega
                        have hi1 : q + 1 < (⟨want.toArray⟩ : ByteArray).size := by omega
                        have HX : Hid (ccCount (want.take (q + 2)) = ccCount (want.take (q + 1)) + (if (⟨want.toArray⟩ : ByteArray)[q] = 58 ∧ (⟨want.toArray⟩ : ByteArray)[q + 1] = 58 then 1 else 0)) := ccCount_next want q _ _ (HGB.out q hi0) (HGB.out (q + 1) hi1)
                        have hsm := HW6.out _ (List.mem_of_getElem? (HGB.out q hi0))
                        have hcc : ccCount (want.take (q + 1)) ≤ 1000 := by
                          have := ccCount_le (want.take (q + 1))
                          rw [List.length_take] at this
                          omega
                        have HX1 : Hid ((⟨want.toArray⟩ : ByteArray)[q].toNat = 58 → (⟨want.toArray⟩ : ByteArray)[q + 1].toNat = 58 → ccCount (want.take (q + 2)) = ccCount (want.take (q + 1)) + 1) := by
                          intro h1 h2
                          rw [HX.out, if_pos ⟨UInt8.toNat_inj.1 h1, UInt8.toNat_inj.1 h2⟩]
                        have HX0 : Hid (¬ ((⟨want.toArray⟩ : ByteArray)[q].toNat = 58 ∧ (⟨want.toArray⟩ : ByteArray)[q + 1].toNat = 58) → ccCount (want.take (q + 2)) = ccCount (want.take (q + 1))) := by
                          intro h
                          rw [HX.out, if_neg (fun x => h ⟨by rw [x.1]; rfl, by rw [x.2]; rfl⟩)]
                          omega
                        clear HX
                        generalize ccCount (want.take (q + 1)) = cc at *
                        by_cases h1 : (⟨want.toArray⟩ : ByteArray)[q].toNat = 58
                        · by_cases h2 : (⟨want.toArray⟩ : ByteArray)[q + 1].toNat = 58
                          · have HE : Hid (ccCount (want.take (q + 2)) = cc + 1) := HX1.out h1 h2
                            go_wp2
                            go_round
                            case rel => exact ⟨q + 1, by omega, by go_num, by rw [HE.out]; go_num⟩
                            case measure => (simp [intOf]; try omega)
                          · have HE : Hid (ccCount (want.take (q + 2)) = cc) := HX0.out (fun x => h2 x.2)
                            go_wp2
                            go_round
                            case rel => exact ⟨q + 1, by omega, by go_num, by rw [HE.out]⟩
                            case measure => (simp [intOf]; try omega)
                        · have HE : Hid (ccCount (want.take (q + 2)) = cc) := HX0.out (fun x => h1 x.1)
                          rcases hsm with hsm | hsm
                          · go_wp2
                            go_round
                            case rel => exact ⟨q + 1, by omega, by go_num, by rw [HE.out]⟩
                            case measure => (simp [intOf]; try omega)
                          · go_wp2
                            go_round
                            case rel => exact ⟨q + 1, by omega, by go_num, by rw [HE.out]⟩
                            case measure => (simp [intOf]; try omega)
                      · have HCW : Hid (ccCount (want.take (q + 1)) = if (noughts ns 0 0 0 0).2 < 2 then 0 else 1) := by
                          show _ = _
                          rw [List.take_of_length_le (by omega)]
                          exact HW5.out
                        by_cases hN : (noughts ns 0 0 0 0).2 < 2
                        · have hcw : ccCount (want.take (q + 1)) = 0 := by rw [HCW.out, if_pos hN]
                          rw [hcw]
                          clear hcw HCW
                          go_wp2_with fail
                          go_loop [29, 32] (fun z i => ∃ q : Nat, q ≤ 7 ∧ i = .int .i64 q ∧ z = .int .i64 0) (fun _ i => 8 - (intOf i).toNat)
                          case atStart => exact ⟨0, by omega, rfl, rfl⟩
                          case round =>
                            obtain ⟨r, hr7, rfl, rfl⟩ := hrel
                            by_cases hlt7 : r < 7
                            · have hcr := HC8.out r (by omega)
                              have hcr1 := HC8.out (r + 1) (by omega)
                              have hp1 := HNL.out r
                              have hp2 := HNL.out (r + 1)
                              have HNO : Hid (nsAt ns r = 0 → nsAt ns (r + 1) = 0 → False) := fun h0 h1 => HNT.out r (by rw [HNA.out r (by omega), h0]) (by rw [HNA.out (r + 1) (by omega), h1]) hN
                              generalize nsAt ns r = pr at *
                              generalize nsAt ns (r + 1) = pr1 at *
                              by_cases hz : pr = 0
                              · have hz1 : ¬ pr1 = 0 := fun h => HNO.out hz h
                                go_wp2
                                go_round
                                case rel => exact ⟨r + 1, by omega, by go_num, rfl⟩
                                case measure => (simp [intOf]; try omega)
                              · go_wp2
                                go_round
                                case rel => exact ⟨r + 1, by omega, by go_num, rfl⟩
                                case measure => (simp [intOf]; try omega)
                            · go_wp2
                              go_ret
                              exact ⟨by simp, HB8.out⟩
                        · have hcw : ccCount (want.take (q + 1)) = 1 := by rw [HCW.out, if_neg hN]
                          rw [hcw]
                          clear hcw HCW
                          go_wp2
                          go_ret
                          exact ⟨by simp, HB8.out⟩
end Go.Proofs
