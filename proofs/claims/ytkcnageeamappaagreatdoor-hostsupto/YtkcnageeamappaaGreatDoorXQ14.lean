import Derived.Test.YtkcnageeamappaaGreatDoorXQ13
namespace Go.Proofs
open Go.RowKit Go.Moor
theorem last_at {α : Type} (ls : List α) (h : ls ≠ []) (d : α) : ls[ls.length - 1]? = some (ls.getLastD d) := by
  rw [← List.getLast?_eq_getElem?, List.getLastD_eq_getLast?]
  cases hl : ls.getLast? with
  | none => exact absurd (List.getLast?_eq_none_iff.1 hl) h
  | some x => rfl
set_option maxHeartbeats 16000000 in
set_option maxRecDepth 8000 in
theorem Tryz.rhost_special (s : ByteArray) (w : World) (hs : s.size ≤ 2000) (hpf : Lib.hasPrefix s.data.toList [91] = false) :
    Calls Tryz.prog 67 #[.string s, .bool true] w fun e w' => RHostRes (hostSpecial (unesc s.data.toList)) e ∧ Below w.heap.size w w' := by
  have HUN : Hid (Calls Tryz.prog 42 #[.string s] w fun e w' => e = .returned (.string ⟨(unesc s.data.toList).toArray⟩) ∧ Below w.heap.size w w') := Tryz.rUnescape_any s w (by omega)
  have HFO : Hid (∀ (c : UInt8) w1, Calls Tryz.prog 110 #[.string ⟨#[0, 9, 10, 13, 32, 35, 47, 58, 60, 62, 63, 64, 91, 92, 93, 94, 124]⟩, .int .u8 c.toNat] w1 fun e w' => e = .returned (.bool (badP c)) ∧ w' = w1) := fun c w1 => Tryz.rforb_any c w1
  have hul : (unesc s.data.toList).length ≤ 2000 := by
    have := unesc_len s.data.toList.length s.data.toList (Nat.le_refl _)
    rw [Array.length_toList] at this
    exact Nat.le_trans this hs
  have hbr := no_bracket s hpf
  clear hpf
  generalize unesc s.data.toList = u at *
  obtain ⟨ub, hub⟩ : ∃ ub : ByteArray, ub = ⟨u.toArray⟩ := ⟨_, rfl⟩
  rw [← hub] at HUN
  have hus : ub.size ≤ 2000 := by rw [hub, size_mk]; exact hul
  have HUD : Hid (ub.data.toList = u) := by show _ = _; rw [hub]
  clear hub
  obtain ⟨L, hL⟩ : ∃ L, L = Lib.toLowerA u := ⟨_, rfl⟩
  have hLl : L.length ≤ 2000 := by rw [hL, lower_len]; exact hul
  obtain ⟨lb, hlb⟩ : ∃ lb : ByteArray, lb = ⟨L.toArray⟩ := ⟨_, rfl⟩
  have HSM : Hid (∀ w1, Calls Tryz.prog 118 #[.string ub] w1 fun e w' => e = .returned (.string lb) ∧ Below w1.heap.size w1 w') := by
    intro w1
    have := Tryz.rsmall_any ub w1 (by omega)
    rw [HUD.out, ← hL, ← hlb] at this
    exact this
  have hlz : lb.size ≤ 2000 := by rw [hlb, size_mk]; exact hLl
  have HLD : Hid (lb.data.toList = L) := by show _ = _; rw [hlb]
  have HSP : Hid (∀ w1, Calls Tryz.prog 78 #[.string lb, .int .u8 46] w1 fun e w' => (∃ v, e = .returned v ∧ w'.ownsRow w1.heap.size 9 1 v (splitOn 46 L).length (strs (splitOn 46 L))) ∧ Below w1.heap.size w1 w') := by
    intro w1
    have := Tryz.rsplit_any lb 46 w1 (by omega)
    rw [HLD.out] at this
    exact this
  have HLE : Hid (lb.toList.isEmpty = L.isEmpty) := by show _ = _; rw [hlb, Lib.toList_data]
  have HLB : Hid (lb = ⟨L.toArray⟩) := hlb
  have HLU : Hid (L = Lib.toLowerA u) := hL
  have HLL : Hid (L.length ≤ 2000) := hLl
  clear hL hlb hul hLl
  suffices key : ∀ res : Option Bs, Hid (res = hostSpecial u) → Calls Tryz.prog 67 #[.string s, .bool true] w fun e w' => RHostRes res e ∧ Below w.heap.size w w' from key _ rfl
  intro res HRES
  obtain ⟨br, hbrk⟩ : ∃ br : Bool, br = false := ⟨_, rfl⟩
  go_enter Tryz.func67, Tryz.ntmps67
  go_upto_region 1 with fail
  go_cut [22] from 15 to 22 (fun b wx => b = .bool br ∧ wx = w)
  case first =>
    rcases hbr with h0 | ⟨h0, h1, h2⟩
    all_goals
      go_wp2
      go_meet
      exact ⟨by rw [hbrk], rfl⟩
  case rest =>
  obtain ⟨rfl, hwc⟩ := hcut
  have hwc := hwc.symm
  subst hwc
  subst hbrk
  clear hbr
  go_wp2_with fail
  refine Calls.mono HUN.out ?_
  rintro e V ⟨rfl, b1⟩
  have HB : Hid (Below w.heap.size w V) := b1
  have hbz := b1.size
  clear b1 HUN
  go_wp2_with fail
  go_loopw [11] (fun i wr => ∃ k : Nat, k ≤ ub.size ∧ i = .int .i64 (k : Nat) ∧ (∀ (j : Nat) (hj : j < ub.size), j < k → badS ub[j] = false) ∧ wr = V) (fun i _ => ub.size - (intOf i).toNat)
  case atStart => exact ⟨0, Nat.zero_le _, rfl, fun j hj h => by omega, rfl⟩
  case round =>
    obtain ⟨k, hk, rfl, hno, hwr⟩ := hrel
    have hwr := hwr.symm
    subst hwr
    have HNO : Hid (∀ (j : Nat) (hj : j < ub.size), j < k → badS ub[j] = false) := hno
    clear hno
    by_cases hlt : k < ub.size
    · have HF : Hid _ := HFO.out ub[k] V
      cases hb : badS ub[k] with
      | true =>
        have HN : Hid (res = none) := by
          show _ = _
          rw [HRES.out]
          have := any_badS ub k hlt hb
          rw [HUD.out] at this
          unfold hostSpecial
          rw [this]
          simp
        rcases badS_ways _ hb with h1 | ⟨h1, h2⟩ | ⟨h1, h2, h3⟩ | ⟨h1, h2, h3, h4⟩
        all_goals
          rw [h1] at HF
          clear hb
          go_wp2_with fail
          refine Calls.mono HF.out ?_
          rintro e W0 ⟨rfl, hw0⟩
          have hw0 := hw0.symm
          subst hw0
          go_wp2
          go_ret2
          rw [HN.out]
          exact ⟨⟨_, rfl⟩, HB.out⟩
      | false =>
        have HNX : Hid (∀ (j : Nat) (hj : j < ub.size), j < k + 1 → badS ub[j] = false) := by
          intro j hj h
          by_cases e : j = k
          · subst e; exact hb
          · exact HNO.out j hj (by omega)
        obtain ⟨h1, h2, h3, h4⟩ := goodS_ways _ hb
        rw [h1] at HF
        clear hb
        go_wp2_with fail
        refine Calls.mono HF.out ?_
        rintro e W0 ⟨rfl, hw0⟩
        have hw0 := hw0.symm
        subst hw0
        go_wp2
        go_roundw
        case rel => exact ⟨k + 1, by omega, by go_num, HNX.out, trivial⟩
        case measure => (simp [intOf]; try omega)
    · have HGS : Hid (u.any badS = false) := by
        have := any_goodS ub (fun j hj => HNO.out j hj (by omega))
        rw [HUD.out] at this
        exact this
      clear HNO HFO
      go_wp2_with fail
      refine Calls.mono (HSM.out V) ?_
      rintro e V1 ⟨rfl, b1⟩
      have HB1 : Hid (Below w.heap.size w V1) := HB.out.trans (b1.mono hbz)
      clear b1 HSM
      go_wp2_with fail
      refine Calls.mono (HSP.out V1) ?_
      rintro e V2 ⟨⟨v, rfl, ho⟩, b2⟩
      have HB2 : Hid (Below w.heap.size w V2) := HB1.out.trans (b2.mono HB1.out.size)
      obtain ⟨ls, hls⟩ : ∃ ls, ls = splitOn 46 L := ⟨_, rfl⟩
      rw [← hls] at ho
      have hne : ls ≠ [] := by rw [hls]; exact splitOn_ne 46 L
      have hpos : 0 < ls.length := List.length_pos_iff.2 hne
      obtain ⟨spv, cap, rfl, hnc, hcm, hrow⟩ := own_shape ho
      obtain ⟨g, hg, hcl⟩ := hrow hpos
      subst hg
      have hgl : g < V2.heap.size := (ho.lt g rfl).2
      have hlc : ls.length ≤ 2001 := by
        rw [hls]
        have := splitOn_count 46 L
        have := HLL.out
        omega
      have HCL : Hid (∀ (j : Nat) x, ls[j]? = some x → V2.cell? ⟨g, j, none⟩ = some (.string ⟨x.toArray⟩)) := fun j x hj => hcl j _ (by unfold strs; rw [List.getElem?_map, hj]; rfl)
      have HLS : Hid (ls = splitOn 46 L) := hls
      have HLM : Hid (∀ x ∈ ls, x.length ≤ 4000) := by
        intro x hx
        rw [HLS.out] at hx
        have := splitOn_mem 46 L x hx
        have := HLL.out
        omega
      have HGT : Hid (g < V2.heap.size) := hgl
      have HNE : Hid (ls ≠ []) := hne
      clear b2 ho hcl hls hrow hgl HSP
      obtain ⟨z, hz⟩ : ∃ z, z = ls.getLastD [] := ⟨_, rfl⟩
      have HLA : Hid (ls[ls.length - 1]? = some z) := by show _ = _; rw [hz]; exact last_at ls hne []
      obtain ⟨n, hn⟩ : ∃ n, ls.length = n + 1 := ⟨ls.length - 1, by omega⟩
      have cz : V2.cell? ⟨g, n, none⟩ = some (.string ⟨z.toArray⟩) := by
        have h := HLA.out
        rw [show ls.length - 1 = n by omega] at h
        exact HCL.out n z h
      have hLG : ls.getLast? = some z := by
        have := HLA.out
        rw [← List.getLast?_eq_getElem?] at this
        exact this
      obtain ⟨dr, hdr⟩ : ∃ dr : Bool, dr = (decide (1 < ls.length) && z.isEmpty) := ⟨_, rfl⟩
      have HLAB : Hid (labels L = if dr then ls.dropLast else ls) := by
        show _ = _
        unfold labels
        rw [← HLS.out, hLG]
        have e : (1 < ls.length ∧ some z = some ([] : List UInt8)) ↔ dr = true := by
          rw [hdr, Bool.and_eq_true, decide_eq_true_eq, List.isEmpty_iff]
          simp
        by_cases hd : dr = true
        · rw [if_pos (e.2 hd), if_pos hd]
        · rw [if_neg (fun h => hd (e.1 h)), if_neg hd]
      have hze : (⟨z.toArray⟩ : ByteArray).toList.isEmpty = z.isEmpty := by rw [Lib.toList_data]
      obtain ⟨zb, hzb⟩ : ∃ zb : ByteArray, zb = ⟨z.toArray⟩ := ⟨_, rfl⟩
      rw [← hzb] at cz hze
      have HDRH : Hid (dr = (decide (1 < ls.length) && z.isEmpty)) := hdr
      have HZE : Hid (zb.toList.isEmpty = z.isEmpty) := hze
      have hli : (ls.length : Int) - 1 = (n : Int) := by omega
      have hnl : n < ls.length := by omega
      have HNN : Hid (ls.length = n + 1) := hn
      clear hLG hdr hze hzb hz hne hn HLA
      go_upto_region 28 with fail
      go_cut [109] from 98 to 130 (fun b wx => b = .bool dr ∧ wx = V2)
      case first =>
        by_cases h1 : 1 < ls.length
        · have h1i : (1 : Int) < (ls.length : Int) := by omega
          have HD : Hid (dr = z.isEmpty) := by
            show _ = _
            rw [HDRH.out, decide_eq_true h1]
            rfl
          cases hzz : z.isEmpty
          all_goals
            have hz2 := HZE.out
            rw [hzz] at hz2 HD
            go_wp2
            go_meet
            exact ⟨by rw [HD.out], rfl⟩
        · have h1i : ¬ (1 : Int) < (ls.length : Int) := by omega
          have HD : Hid (dr = false) := by
            show _ = _
            rw [HDRH.out, decide_eq_false h1]
            rfl
          go_wp2
          go_meet
          exact ⟨by rw [HD.out], rfl⟩
      case rest =>
      obtain ⟨rfl, hwc⟩ := hcut
      have hwc := hwc.symm
      subst hwc
      go_upto_if 109 with fail
      go_cut [13] from 98 to 130 (fun a wx => ∃ cap2, a = .slice (some ⟨g, 0, none⟩) (labels L).length cap2 ∧ (labels L).length ≤ cap2 ∧ wx = V2)
      case first =>
        cases dr with
        | true =>
          have HLN : Hid ((labels L).length = n) := by
            show _ = _
            rw [HLAB.out, if_pos rfl, List.length_dropLast, HNN.out]
            rfl
          have hn0 : (0 : Int) ≤ (n : Int) := by omega
          have hnc2 : (n : Int) ≤ (cap : Int) := by omega
          go_wp2
          go_meet
          exact ⟨cap, by rw [HLN.out], by rw [HLN.out]; omega, rfl⟩
        | false =>
          have HLN : Hid ((labels L).length = ls.length) := by
            show _ = _
            rw [HLAB.out, if_neg (by simp)]
          go_wp2
          go_meet
          exact ⟨cap, by rw [HLN.out], by rw [HLN.out]; omega, rfl⟩
      case rest =>
      obtain ⟨cap2, rfl, hcap2, hwc⟩ := hcut
      have hwc := hwc.symm
      subst hwc
      have HCB : Hid (∀ (j : Nat) x, (labels L)[j]? = some x → V2.cell? ⟨g, j, none⟩ = some (.string ⟨x.toArray⟩)) := by
        intro j x hj
        rw [HLAB.out] at hj
        split at hj
        · refine HCL.out j x ?_
          rw [List.getElem?_dropLast] at hj
          split at hj
          · exact hj
          · cases hj
        · exact HCL.out j x hj
      have HLBM : Hid (∀ x ∈ labels L, x.length ≤ 4000) := by
        intro x hx
        have := labels_mem L x hx
        have := HLL.out
        omega
      have hbl : (labels L).length ≤ 2001 := by
        rw [HLAB.out]
        split
        · rw [List.length_dropLast]; omega
        · exact hlc
      have hbne := labels_ne L
      have HBNE : Hid (labels L ≠ []) := hbne
      have hbpos : 0 < (labels L).length := List.length_pos_iff.2 hbne
      have HSPEC : Hid (u ≠ [] → res = if numLabel ((labels L).getLastD []) then (ip4 (labels L)).map (fun a => tell4 a.toNat) else some L) := by
        intro hu
        rw [HRES.out]
        unfold hostSpecial
        rw [if_neg hu, HGS.out, if_neg (by simp), ← HLU.out]
      have HNIL : Hid (u = [] → res = none ∧ numLabel ((labels L).getLastD []) = false ∧ L = []) := by
        intro hu
        have hL0 : L = [] := by rw [HLU.out, hu]; rfl
        refine ⟨?_, ?_, hL0⟩
        · rw [HRES.out]; unfold hostSpecial; rw [if_pos hu]
        · rw [hL0, labels_nil]; decide
      have HLNIL : Hid (L = [] → u = []) := by
        intro h
        have h2 := HLU.out
        rw [h] at h2
        have h3 := congrArg List.length h2
        rw [lower_len] at h3
        exact List.length_eq_zero_iff.1 h3.symm
      generalize labels L = bs at *
      clear hbne HLAB HDRH HNE HCL HLM HZE cz hli hnl HNN HLS hnc hcm hlc
      obtain ⟨z2, hz2⟩ : ∃ z2, z2 = bs.getLastD [] := ⟨_, rfl⟩
      obtain ⟨n2, hn2⟩ : ∃ n2, bs.length = n2 + 1 := ⟨bs.length - 1, by omega⟩
      have hla2 := last_at bs HBNE.out ([] : List UInt8)
      rw [← hz2, show bs.length - 1 = n2 by omega] at hla2
      have cz2 := HCB.out n2 z2 hla2
      have hz2m := HLBM.out z2 (List.mem_of_getElem? hla2)
      obtain ⟨zb2, hzb2⟩ : ∃ zb2 : ByteArray, zb2 = ⟨z2.toArray⟩ := ⟨_, rfl⟩
      rw [← hzb2] at cz2
      rw [← hz2] at HSPEC HNIL
      have HNU : Hid (Calls Tryz.prog 119 #[.string zb2] V2 fun e w' => e = .returned (.bool (numLabel z2)) ∧ w' = V2) := by
        have := Tryz.rnumeric_any zb2 V2 (by rw [hzb2, size_mk]; omega)
        rw [hzb2] at this ⊢
        exact this
      have HFR : Hid (Calls Tryz.prog 120 #[.slice (some ⟨g, 0, none⟩) bs.length cap2] V2 fun e w' => FourRes (ip4 bs) e ∧ Below V2.heap.size V2 w') := Tryz.rfour_any bs _ cap2 V2 HBNE.out (by omega) HLBM.out ⟨g, rfl, HGT.out, HCB.out⟩
      have hli2 : (bs.length : Int) - 1 = (n2 : Int) := by omega
      have hnl2 : n2 < bs.length := by omega
      clear hz2 hn2 hla2 hz2m hzb2 HCB HLBM
      go_wp2_with fail
      refine Calls.mono HNU.out ?_
      rintro e W0 ⟨rfl, hw0⟩
      have hw0 := hw0.symm
      subst hw0
      cases hnum : numLabel z2 with
      | false =>
        rw [hnum] at HSPEC
        have HLE2 : Hid _ := HLE.out
        by_cases hL0 : L = []
        · have HN : Hid (res = none) := (HNIL.out (HLNIL.out hL0)).1
          have hle : lb.toList.isEmpty = true := by rw [HLE.out, hL0]; rfl
          clear hL0 hnum
          go_wp2
          go_ret2
          rw [HN.out]
          exact ⟨⟨_, rfl⟩, HB2.out⟩
        · have HN : Hid (res = some L) := by
            show _ = _
            rw [HSPEC.out (fun h => hL0 (HNIL.out h).2.2)]
            rfl
          have hle : lb.toList.isEmpty = false := by
            rw [HLE.out]
            cases L with
            | nil => exact absurd rfl hL0
            | cons => rfl
          clear hL0 hnum
          go_wp2
          go_ret2
          rw [HN.out]
          refine ⟨?_, HB2.out⟩
          show _ = Ending.returned (.tuple #[.string ⟨L.toArray⟩, .bool true])
          rw [← HLB.out]
          rfl
      | true =>
        have hu : u ≠ [] := fun h => by
          have := (HNIL.out h).2.1
          rw [hnum] at this
          cases this
        have HN : Hid (res = (ip4 bs).map (fun a => tell4 a.toNat)) := by
          show _ = _
          rw [HSPEC.out hu, hnum]
          rfl
        clear hnum hu
        go_wp2_with fail
        refine Calls.mono HFR.out ?_
        rintro e V3 ⟨hf, b3⟩
        have HB3 : Hid (Below w.heap.size w V3) := HB2.out.trans (b3.mono HB2.out.size)
        clear b3
        cases ho : ip4 bs with
        | none =>
          rw [ho] at hf HN
          have hf : e = _ := hf
          subst hf
          clear ho
          go_wp2
          go_ret2
          rw [HN.out]
          exact ⟨⟨_, rfl⟩, HB3.out⟩
        | some a =>
          rw [ho] at hf HN
          have hf : e = _ := hf
          subst hf
          clear ho
          go_wp2
          go_ret2
          rw [HN.out]
          exact ⟨rfl, HB3.out⟩
theorem Tryz.rHost_any (s : ByteArray) (sp : Bool) (w : World) (hs : s.size ≤ 2000) :
    Calls Tryz.prog 67 #[.string s, .bool sp] w fun e w' => RHostRes (hostTell s.data.toList sp) e ∧ Below w.heap.size w w' := by
  unfold hostTell
  by_cases hp : Lib.hasPrefix s.data.toList [91] = true
  · rw [if_pos hp]
    exact Tryz.rhost_six s sp w hs hp
  · have hp2 : Lib.hasPrefix s.data.toList [91] = false := by simpa using hp
    rw [if_neg hp]
    cases sp with
    | true => exact Tryz.rhost_special s w hs hp2
    | false => exact Tryz.rhost_plain s w hs hp2
end Go.Proofs
