/-
  The walk of readSegments of package address.
-/
import Derived.Test.YtkcnageeamappaaGreatDoorJASegs
namespace Go.Proofs
open Go.RowKit Go.Moor

theorem own_block_same {sp : Option Go.Addr} {n m c : Nat} {o : Option Nat} (h : (Value.slice sp n c).ownBlock ≠ o) : (Value.slice sp m c).ownBlock ≠ o := by
  cases sp with
  | none => exact h
  | some a => exact h
theorem add_zero_at (g j : Nat) : (⟨g, 0, none⟩ : Go.Addr).add j = ⟨g, j, none⟩ := by
  unfold Go.Addr.add
  split
  · rename_i h; rw [h]
  · simp
set_option maxHeartbeats 8000000 in
theorem Tryz.readSegments_any (sc t : Bs) (sp : Option Go.Addr) (cap : Nat) (begun : List Bs) (w : World) (ht : t.length ≤ 100000) (hbl : begun.length ≤ 1000000) (hbx : ∀ x ∈ begun, x.length ≤ 1000000)
    (hform : begun ≠ [] → ∃ g, sp = some ⟨g, 0, none⟩ ∧ ∀ (j : Nat) x, begun[j]? = some x → w.cell? ⟨g, j, none⟩ = some (.string ⟨x.toArray⟩)) (henv : Tryz.Env2 w) :
    Calls Tryz.prog 212 #[.string ⟨sc.toArray⟩, .slice sp begun.length cap, .string ⟨t.toArray⟩] w fun e w' => (∃ v, e = .returned v ∧ w'.ownsRow w.heap.size 9 1 v (readSegs sc begun t).length (strs (readSegs sc begun t))) ∧ Below w.heap.size w w' := by
  have HV : Hid (Tryz.Env2 w) := henv
  have HCL : Hid (Calls Tryz.prog 250 #[.slice sp begun.length cap] w fun e w' => (∃ v, e = .returned v ∧ w'.ownsRow w.heap.size 9 1 v begun.length (strs begun)) ∧ Below w.heap.size w w') := Tryz.clone_row sp cap begun w (by omega) hform
  have HSP : Hid (∀ W, Calls Tryz.prog 126 #[.string ⟨sc.toArray⟩] W fun e w' => e = .returned (.bool (special sc)) ∧ w' = W) := fun W => Tryz.isSpecial_any ⟨sc.toArray⟩ W
  obtain ⟨i0, hi, hz0, hz1, hz2⟩ := info_parts Tryz.infoStr
  clear henv hform
  by_cases hnone : t = [] ∧ special sc = false
  · obtain ⟨rfl, hsf⟩ := hnone
    have HE : Hid (readSegs sc begun [] = begun) := by show _ = _; unfold readSegs; rw [if_pos ⟨rfl, hsf⟩]
    have e1 := empty_yes
    rw [hsf] at HSP
    clear hsf
    go_enter Tryz.func212, Tryz.ntmps212
    go_wp2_with fail
    refine HCL.out.mono ?_
    rintro e w1 ⟨⟨v, rfl, ho⟩, b1⟩
    have HO : Hid (w1.ownsRow w.heap.size 9 1 v begun.length (strs begun)) := ho
    clear ho
    go_wp2_with fail
    refine (HSP.out w1).mono ?_
    rintro e w2 ⟨rfl, hw0⟩
    have hw0 := hw0.symm
    subst hw0
    go_wp2
    go_ret
    rw [HE.out]
    exact ⟨⟨_, rfl, HO.out⟩, b1⟩
  · have HE : Hid (readSegs sc begun t = segLoop sc begun (splitOn 47 (trimSlash t))) := by show _ = _; unfold readSegs; rw [if_neg hnone]
    generalize readSegs sc begun t = goal at *
    have HTP : Hid (∀ W, Calls Tryz.prog 165 #[.string ⟨t.toArray⟩, .string ⟨#[47]⟩] W fun e w' => e = .returned (.string ⟨(trimSlash t).toArray⟩) ∧ w' = W) := by
      intro W
      refine (Tryz.strings_TrimPrefix ⟨t.toArray⟩ ⟨#[47]⟩ W).mono ?_
      rintro e w' ⟨rfl, rfl⟩
      refine ⟨?_, rfl⟩
      have : Lib.trimPrefix (⟨t.toArray⟩ : ByteArray).data.toList (⟨#[47]⟩ : ByteArray).data.toList = trimSlash t := by
        show Lib.trimPrefix t [47] = _
        unfold Lib.trimPrefix Lib.hasPrefix trimSlash
        cases t with
        | nil => rfl
        | cons c r =>
          by_cases h : c = 47
          · subst h; simp [List.isPrefixOf]
          · have h2 : ¬ (47 : UInt8) = c := fun e => h e.symm
            simp [List.isPrefixOf, h, h2]
      rw [this]
    have htl : (trimSlash t).length ≤ t.length := by
      unfold trimSlash
      split <;> simp
    have HSPL : Hid (∀ W, Tryz.Env W → Calls Tryz.prog 132 #[.string ⟨(trimSlash t).toArray⟩, .string ⟨#[47]⟩] W fun e w' => e = .returned (.slice (some ⟨W.heap.size, 0, none⟩) (splitOn 47 (trimSlash t)).length (splitOn 47 (trimSlash t)).length) ∧ Below W.heap.size W w' ∧ W.heap.size < w'.heap.size ∧ ∀ (j : Nat) x, (splitOn 47 (trimSlash t))[j]? = some x → w'.cell? ⟨W.heap.size, j, none⟩ = some (.string ⟨x.toArray⟩)) := by
      intro W hv
      obtain ⟨m, hm⟩ := hv.maxLen
      refine (Tryz.split_any ⟨(trimSlash t).toArray⟩ 47 m W (by rw [size_mk]; omega) hm).mono ?_
      rintro e w' ⟨xs, hxs, rfl, rfl⟩
      have hxs' : xs.map (·.data.toList) = splitOn 47 (trimSlash t) := hxs
      have hl : xs.length = (splitOn 47 (trimSlash t)).length := by rw [← hxs', List.length_map]
      refine ⟨by rw [hl], (Below.refl _ _).alloc (Nat.le_refl _) _, by simp, ?_⟩
      intro j x hx
      rw [← hxs', List.getElem?_map, Option.map_eq_some_iff] at hx
      obtain ⟨y, hy, rfl⟩ := hx
      rw [World.cell?_alloc_new]
      simp only [List.getElem?_toArray, List.getElem?_map, hy, Option.map_some]
    have HPL : Hid (∀ x ∈ splitOn 47 (trimSlash t), x.length ≤ 100000) := fun x hx => by
      have := splitOn_mem 47 _ x hx
      omega
    have hpn : (splitOn 47 (trimSlash t)).length ≤ 100001 := by
      have := splitOn_count 47 (trimSlash t)
      omega
    generalize splitOn 47 (trimSlash t) = parts at *
    generalize trimSlash t = tt at *
    clear htl
    by_cases hte : t = []
    · have hsf : special sc = true := by
        cases h : special sc with
        | true => rfl
        | false => exact absurd ⟨hte, h⟩ hnone
      subst hte
      have e0 := empty_yes
      rw [hsf] at HSP
      clear hsf hnone
      go_enter Tryz.func212, Tryz.ntmps212
      go_wp2_with fail
      refine HCL.out.mono ?_
      rintro e w1 ⟨⟨v, rfl, ho⟩, b1⟩
      have HO : Hid (w1.ownsRow w.heap.size 9 1 v begun.length (strs begun)) := ho
      have HV1 : Hid (Tryz.Env2 w1) := HV.out.below b1
      clear ho
      go_wp2_with fail
      refine (HSP.out w1).mono ?_
      rintro e w2 ⟨rfl, hw0⟩
      have hw0 := hw0.symm
      subst hw0
      go_wp2_with fail
      refine (HTP.out w1).mono ?_
      rintro e w2 ⟨rfl, hw0⟩
      have hw0 := hw0.symm
      subst hw0
      go_wp2_with fail
      refine (HSPL.out w1 HV1.out.env).mono ?_
      rintro e w2 ⟨rfl, b2, hzp, hcp⟩
      have HO2 : Hid (w2.ownsRow w.heap.size 9 1 v begun.length (strs begun)) := own_below HO.out b2
      have HPB : Hid (v.ownBlock ≠ some w1.heap.size) := fun h => by
        have := own_block_lt HO.out _ h
        omega
      have HCP : Hid (∀ (j : Nat) x, parts[j]? = some x → w2.cell? ⟨w1.heap.size, j, none⟩ = some (.string ⟨x.toArray⟩)) := hcp
      have HB2 : Hid (Below w.heap.size w w2) := b1.trans (b2.mono b1.size)
      have hw1z := b1.size
      clear hcp b1 b2 HO
      go_wp2_with fail
      go_loopw [7, 27] (fun s i wr => ∃ (q : Nat) (segs : List Bs), q ≤ parts.length ∧ i = .int .i64 q ∧ wr.ownsRow w.heap.size 9 1 s segs.length (strs segs) ∧ s.ownBlock ≠ some w1.heap.size ∧ (∀ (j : Nat) x, parts[j]? = some x → wr.cell? ⟨w1.heap.size, j, none⟩ = some (.string ⟨x.toArray⟩)) ∧ segLoop sc segs (parts.drop q) = goal ∧ segs.length ≤ 1000000 + q ∧ (∀ x ∈ segs, x.length ≤ 1000000) ∧ Below w.heap.size w wr ∧ w1.heap.size < wr.heap.size) (fun _ i _ => parts.length - (intOf i).toNat)
      case atStart => exact ⟨0, begun, Nat.zero_le _, rfl, HO2.out, HPB.out, HCP.out, HE.out.symm, by omega, hbx, HB2.out, hzp⟩
      case round =>
        obtain ⟨q, segs, hq, rfl, hown, hpb, hcp, hrest, hsl, hsx, hbw, hwz⟩ := hrel
        obtain ⟨sp2, cap2, hvf, hnc, hcm, hf2⟩ := own_shape hown
        subst hvf
        have HO3 : Hid (wr.ownsRow w.heap.size 9 1 (.slice sp2 segs.length cap2) segs.length (strs segs)) := hown
        have HP3 : Hid ((Value.slice sp2 segs.length cap2).ownBlock ≠ some w1.heap.size) := hpb
        have HC3 : Hid (∀ (j : Nat) x, parts[j]? = some x → wr.cell? ⟨w1.heap.size, j, none⟩ = some (.string ⟨x.toArray⟩)) := hcp
        have HR3 : Hid (segLoop sc segs (parts.drop q) = goal) := hrest
        have HX3 : Hid (∀ x ∈ segs, x.length ≤ 1000000) := hsx
        have HB3 : Hid (Below w.heap.size w wr) := hbw
        have HV3 : Hid (Tryz.Env2 wr) := HV.out.below hbw
        have hbz := hbw.size
        unfold maxLen at hcm
        clear hown hpb hcp hrest hsx hbw hf2
        by_cases hlt : q < parts.length
        · obtain ⟨p, hp⟩ : ∃ p, parts[q]? = some p := ⟨parts[q]'hlt, List.getElem?_eq_getElem hlt⟩
          have hcq := HC3.out q p hp
          have hpl := HPL.out p (List.mem_of_getElem? hp)
          have HDR : Hid (parts.drop q = p :: parts.drop (q + 1)) := by
            obtain ⟨h1, h2⟩ := List.getElem?_eq_some_iff.1 hp
            show _ = _
            rw [List.drop_eq_getElem_cons h1, h2]
          have HLE : Hid ((parts.drop (q + 1)).isEmpty = decide (q + 1 = parts.length)) := by
            show _ = _
            by_cases h : q + 1 = parts.length
            · rw [List.drop_eq_nil_of_le (by omega), decide_eq_true h]
              rfl
            · rw [decide_eq_false h]
              cases hd : parts.drop (q + 1) with
              | nil =>
                have := congrArg List.length hd
                rw [List.length_drop] at this
                simp at this
                omega
              | cons a b => rfl
          clear hp
          have HDO : Hid (Calls Tryz.prog 251 #[.string ⟨p.toArray⟩] wr fun e w' => e = .returned (.string ⟨(dotsTxt p).toArray⟩) ∧ Below wr.heap.size wr w') := Tryz.dotsOf_any p wr (by omega) HV3.out.env
          have KEEP : Hid (∀ w3, Below wr.heap.size wr w3 → w3.ownsRow w.heap.size 9 1 (.slice sp2 segs.length cap2) segs.length (strs segs) ∧ (∀ (j : Nat) x, parts[j]? = some x → w3.cell? ⟨w1.heap.size, j, none⟩ = some (.string ⟨x.toArray⟩)) ∧ Below w.heap.size w w3 ∧ w1.heap.size < w3.heap.size ∧ Tryz.Env2 w3) := by
            intro w3 h3
            have hb := HB3.out.trans (h3.mono hbz)
            refine ⟨own_below HO3.out h3, fun j x hx => ?_, hb, Nat.lt_of_lt_of_le hwz h3.size, HV.out.below hb⟩
            rw [h3.cell (p := ⟨w1.heap.size, j, none⟩) hwz]
            exact HC3.out j x hx
          rcases dots_le p with hd | hd | hd
          · have HD : Hid (dotsTxt p = []) := by show _ = _; unfold dotsTxt; rw [if_neg (by omega), if_neg (by omega)]
            have HST : Hid (segLoop sc (segs ++ [tellSeg sc p segs.isEmpty]) (parts.drop (q + 1)) = goal) := by
              show _ = _
              rw [← HR3.out, HDR.out, segLoop_cons sc segs p _ hd]
            have htsl := tellSeg_len sc p segs.isEmpty
            have HTS : Hid (∀ w3, Below wr.heap.size wr w3 → Calls Tryz.prog 252 #[.string ⟨sc.toArray⟩, .string ⟨p.toArray⟩, .bool segs.isEmpty] w3 fun e w' => e = .returned (.string ⟨(tellSeg sc p segs.isEmpty).toArray⟩) ∧ Below wr.heap.size wr w') := by
              intro w3 h3
              refine (Tryz.tellSegment_any sc p segs.isEmpty w3 (by omega) (KEEP.out w3 h3).2.2.2.2.env).mono ?_
              rintro e w' ⟨rfl, hb⟩
              exact ⟨rfl, h3.trans (hb.mono h3.size)⟩
            have hfb : ((segs.length : Int) == 0) = segs.isEmpty := by
              cases segs with
              | nil => rfl
              | cons a b => simp; omega
            rw [HD.out] at HDO
            generalize tellSeg sc p segs.isEmpty = ts at *
            generalize segs.isEmpty = fl at *
            have e1 := empty_yes
            clear hd HD
            go_wp2_with fail
            refine HDO.out.mono ?_
            rintro e w3 ⟨rfl, b3⟩
            go_wp2_with fail
            refine (HTS.out w3 b3).mono ?_
            rintro e w4 ⟨rfl, b4⟩
            obtain ⟨k1, k2, k3, k4, k5⟩ := KEEP.out w4 b4
            have HK2 : Hid (∀ (j : Nat) x, parts[j]? = some x → w4.cell? ⟨w1.heap.size, j, none⟩ = some (.string ⟨x.toArray⟩)) := k2
            have HK3 : Hid (Below w.heap.size w w4) := k3
            have hk3 := k3.size
            have HO4 := k1.alloc (.cells #[.string ⟨ts.toArray⟩] 9)
            clear k1 k2 k3 k5
            go_wp2_with (at_builtin; refine wpList_append_lies _ rfl _ _ 28 rfl w.heap.size 9 i0 (.string ⟨#[]⟩) 1 16 Tryz.underlying28 hi hz0 hz1 hz2 rfl (by decide) _ _ _ rfl HO4 ⟨w4.heap.size, 0, none⟩ 1 1 [.string ⟨ts.toArray⟩] rfl rfl ?c1 ?c2 (by decide) ?c3 ?c4 ?c5 _ rfl ?_)
            case c1 =>
              intro j u hj
              match j, hj with
              | 0, hj => simp at hj; subst hj; exact World.cell?_alloc_new w4 #[.string ⟨ts.toArray⟩] 9 0
            case c2 => intro u hu; simp at hu; subst hu; rfl
            case c3 => unfold maxLen; omega
            case c4 => omega
            case c5 => simp; omega
            intro g cap3 w5 hown' hgrow hat hglt
            have HOW : Hid (w5.ownsRow w.heap.size 9 1 (.slice (some ⟨g, 0, none⟩) (segs.length + 1) cap3) (segs.length + 1) (strs segs ++ [.string ⟨ts.toArray⟩])) := hown'
            have HPN : Hid ((Value.slice (some ⟨g, 0, none⟩) (segs.length + 1) cap3).ownBlock ≠ some w1.heap.size) := by
              intro h
              have hg : g = w1.heap.size := by simpa [Value.ownBlock] using h
              rcases hat with h1 | h1
              · exact HP3.out (by rw [h1, hg])
              · first | omega | (simp at h1; omega)
            have HCN : Hid (∀ (j : Nat) x, parts[j]? = some x → w5.cell? ⟨w1.heap.size, j, none⟩ = some (.string ⟨x.toArray⟩)) := by
              intro j x hx
              refine hgrow.cell ?_ (fun h => HP3.out h.symm)
              rw [World.cell?_alloc_lt _ _ ⟨w1.heap.size, j, none⟩ k4]
              exact HK2.out j x hx
            have HBN : Hid (Below w.heap.size w w5) := (HK3.out.alloc hk3 _).grown hgrow (by simp; omega) (fun k hk => (HO4.lt k hk).1)
            have hzn : w1.heap.size < w5.heap.size := by
              have := hgrow.size
              simp at this
              omega
            clear hown' hgrow HO4 hat
            go_wp2
            go_roundw
            case rel =>
              refine ⟨q + 1, segs ++ [ts], by omega, by go_num, ?_, ?_, HCN.out, HST.out, by simp; omega, ?_, HBN.out, hzn⟩
              · rw [List.length_append, strs_app]
                exact HOW.out
              · exact HPN.out
              · intro x hx
                rcases List.mem_append.1 hx with hx | hx
                · exact HX3.out x hx
                · simp at hx; subst hx; omega
            case measure => (simp [intOf]; try omega)
          · have HD : Hid (dotsTxt p = [46]) := by show _ = _; unfold dotsTxt; rw [if_pos hd]
            rw [HD.out] at HDO
            have HX4 : Hid (∀ x ∈ segs, x.length ≤ 1000000) := HX3.out
            have HP4 : Hid ((Value.slice sp2 segs.length cap2).ownBlock ≠ some w1.heap.size) := HP3.out
            by_cases hla : q + 1 = parts.length
            · have HST : Hid (segLoop sc (segs ++ [[]]) (parts.drop (q + 1)) = goal) := by
                show _ = _
                rw [← HR3.out, HDR.out, segLoop_one sc segs p _ hd, HLE.out, decide_eq_true hla]
                rfl
              have hlb : ((q : Int) == (parts.length : Int) - 1) = true := by rw [beq_iff_eq]; omega
              clear hd HD HDR HLE
              go_wp2_with fail
              refine HDO.out.mono ?_
              rintro e w4 ⟨rfl, b4⟩
              obtain ⟨k1, k2, k3, k4, k5⟩ := KEEP.out w4 b4
              have HK2 : Hid (∀ (j : Nat) x, parts[j]? = some x → w4.cell? ⟨w1.heap.size, j, none⟩ = some (.string ⟨x.toArray⟩)) := k2
              have HK3 : Hid (Below w.heap.size w w4) := k3
              have hk3 := k3.size
              have HO4 := k1.alloc (.cells #[.string ⟨#[]⟩] 9)
              clear k1 k2 k3 k5
              go_wp2_with (at_builtin; refine wpList_append_lies _ rfl _ _ 28 rfl w.heap.size 9 i0 (.string ⟨#[]⟩) 1 16 Tryz.underlying28 hi hz0 hz1 hz2 rfl (by decide) _ _ _ rfl HO4 ⟨w4.heap.size, 0, none⟩ 1 1 [.string ⟨#[]⟩] rfl rfl ?c1 ?c2 (by decide) ?c3 ?c4 ?c5 _ rfl ?_)
              case c1 =>
                intro j u hj
                match j, hj with
                | 0, hj => simp at hj; subst hj; exact World.cell?_alloc_new w4 #[.string ⟨#[]⟩] 9 0
              case c2 => intro u hu; simp at hu; subst hu; rfl
              case c3 => unfold maxLen; omega
              case c4 => omega
              case c5 => simp; omega
              intro g cap3 w5 hown' hgrow hat hglt
              have HOW : Hid (w5.ownsRow w.heap.size 9 1 (.slice (some ⟨g, 0, none⟩) (segs.length + 1) cap3) (segs.length + 1) (strs segs ++ [.string ⟨#[]⟩])) := hown'
              have HPN : Hid ((Value.slice (some ⟨g, 0, none⟩) (segs.length + 1) cap3).ownBlock ≠ some w1.heap.size) := by
                intro h
                have hg : g = w1.heap.size := by simpa [Value.ownBlock] using h
                rcases hat with h1 | h1
                · exact HP4.out (by rw [h1, hg])
                · first | omega | (simp at h1; omega)
              have HCN : Hid (∀ (j : Nat) x, parts[j]? = some x → w5.cell? ⟨w1.heap.size, j, none⟩ = some (.string ⟨x.toArray⟩)) := by
                intro j x hx
                refine hgrow.cell ?_ (fun h => HP4.out h.symm)
                rw [World.cell?_alloc_lt _ _ ⟨w1.heap.size, j, none⟩ k4]
                exact HK2.out j x hx
              have HBN : Hid (Below w.heap.size w w5) := (HK3.out.alloc hk3 _).grown hgrow (by simp; omega) (fun k hk => (HO4.lt k hk).1)
              have hzn : w1.heap.size < w5.heap.size := by
                have := hgrow.size
                simp at this
                omega
              clear hown' hgrow HO4 hat
              go_wp2
              go_roundw
              case rel =>
                refine ⟨q + 1, segs ++ [[]], by omega, by go_num, ?_, ?_, HCN.out, HST.out, by simp; omega, ?_, HBN.out, hzn⟩
                · rw [List.length_append, strs_app]
                  exact HOW.out
                · exact HPN.out
                · intro x hx
                  rcases List.mem_append.1 hx with hx | hx
                  · exact HX4.out x hx
                  · simp at hx; subst hx; simp
              case measure => (simp [intOf]; try omega)
            · have HST : Hid (segLoop sc segs (parts.drop (q + 1)) = goal) := by
                show _ = _
                rw [← HR3.out, HDR.out, segLoop_one sc segs p _ hd, HLE.out, decide_eq_false hla]
                simp
              have hlb : ((q : Int) == (parts.length : Int) - 1) = false := beq_eq_false_iff_ne.2 (by omega)
              clear hd HD HDR HLE
              go_wp2_with fail
              refine HDO.out.mono ?_
              rintro e w4 ⟨rfl, b4⟩
              obtain ⟨k1, k2, k3, k4, k5⟩ := KEEP.out w4 b4
              have HK1 : Hid (w4.ownsRow w.heap.size 9 1 (.slice sp2 segs.length cap2) segs.length (strs segs)) := k1
              have HK2 : Hid (∀ (j : Nat) x, parts[j]? = some x → w4.cell? ⟨w1.heap.size, j, none⟩ = some (.string ⟨x.toArray⟩)) := k2
              have HK3 : Hid (Below w.heap.size w w4) := k3
              clear k1 k2 k3 k5
              go_wp2
              go_roundw
              case rel => exact ⟨q + 1, segs, by omega, by go_num, HK1.out, HP3.out, HK2.out, HST.out, by omega, HX3.out, HK3.out, k4⟩
              case measure => (simp [intOf]; try omega)
          · have HD : Hid (dotsTxt p = [46, 46]) := by show _ = _; unfold dotsTxt; rw [if_neg (by omega), if_pos hd]
            rw [HD.out] at HDO
            obtain ⟨hwl, hwm⟩ := withoutLast_mem sc segs
            have HWL : Hid (∀ w3, Below wr.heap.size wr w3 → Calls Tryz.prog 253 #[.string ⟨sc.toArray⟩, .slice sp2 segs.length cap2] w3 fun e w' => e = .returned (.slice sp2 (withoutLast sc segs).length cap2) ∧ w' = w3) := by
              intro w3 h3
              obtain ⟨k1, _⟩ := KEEP.out w3 h3
              refine Tryz.withoutLast_any sc sp2 cap2 segs w3 hnc hcm (fun x hx => by have := HX3.out x hx; omega) ?_
              intro j x hx
              obtain ⟨sp4, cap4, hv4, _, _, hf4⟩ := own_shape k1
              simp only [Value.slice.injEq] at hv4
              obtain ⟨rfl, _, rfl⟩ := hv4
              obtain ⟨g, rfl, hg⟩ := hf4 (by have := (List.getElem?_eq_some_iff.1 hx).1; omega)
              refine ⟨_, rfl, ?_⟩
              rw [add_zero_at]
              exact hg j _ (by unfold strs; rw [List.getElem?_map, hx]; rfl)
            have HOL : Hid (∀ w3, Below wr.heap.size wr w3 → w3.ownsRow w.heap.size 9 1 (.slice sp2 (withoutLast sc segs).length cap2) (withoutLast sc segs).length (strs (withoutLast sc segs))) := fun w3 h3 => own_less sc (KEEP.out w3 h3).1
            have HX4 : Hid (∀ x ∈ withoutLast sc segs, x.length ≤ 1000000) := fun x hx => HX3.out x (hwm x hx)
            have HP4 : Hid ((Value.slice sp2 (withoutLast sc segs).length cap2).ownBlock ≠ some w1.heap.size) := own_block_same (HP3.out)
            have HT2 : Hid (segLoop sc (withoutLast sc segs ++ (if (parts.drop (q + 1)).isEmpty then [[]] else [])) (parts.drop (q + 1)) = goal) := by
              show _ = _
              rw [← HR3.out, HDR.out, segLoop_two sc segs p _ hd]
            clear hd HD HDR hwm
            generalize withoutLast sc segs = less at *
            by_cases hla : q + 1 = parts.length
            · have HST : Hid (segLoop sc (less ++ [[]]) (parts.drop (q + 1)) = goal) := by
                have := HT2.out
                rw [HLE.out, decide_eq_true hla] at this
                exact this
              have hlb : ((q : Int) == (parts.length : Int) - 1) = true := by rw [beq_iff_eq]; omega
              clear HLE HT2
              go_wp2_with fail
              refine HDO.out.mono ?_
              rintro e w4 ⟨rfl, b4⟩
              go_wp2_with fail
              refine (HWL.out w4 b4).mono ?_
              rintro e w6 ⟨rfl, hw6⟩
              have hw6 := hw6.symm
              subst hw6
              obtain ⟨_, k2, k3, k4, k5⟩ := KEEP.out w4 b4
              have k1 := HOL.out w4 b4
              have HK2 : Hid (∀ (j : Nat) x, parts[j]? = some x → w4.cell? ⟨w1.heap.size, j, none⟩ = some (.string ⟨x.toArray⟩)) := k2
              have HK3 : Hid (Below w.heap.size w w4) := k3
              have hk3 := k3.size
              have HO4 := k1.alloc (.cells #[.string ⟨#[]⟩] 9)
              clear k1 k2 k3 k5
              go_wp2_with (at_builtin; refine wpList_append_lies _ rfl _ _ 28 rfl w.heap.size 9 i0 (.string ⟨#[]⟩) 1 16 Tryz.underlying28 hi hz0 hz1 hz2 rfl (by decide) _ _ _ rfl HO4 ⟨w4.heap.size, 0, none⟩ 1 1 [.string ⟨#[]⟩] rfl rfl ?c1 ?c2 (by decide) ?c3 ?c4 ?c5 _ rfl ?_)
              case c1 =>
                intro j u hj
                match j, hj with
                | 0, hj => simp at hj; subst hj; exact World.cell?_alloc_new w4 #[.string ⟨#[]⟩] 9 0
              case c2 => intro u hu; simp at hu; subst hu; rfl
              case c3 => unfold maxLen; omega
              case c4 => omega
              case c5 => simp; omega
              intro g cap3 w5 hown' hgrow hat hglt
              have HOW : Hid (w5.ownsRow w.heap.size 9 1 (.slice (some ⟨g, 0, none⟩) (less.length + 1) cap3) (less.length + 1) (strs less ++ [.string ⟨#[]⟩])) := hown'
              have HPN : Hid ((Value.slice (some ⟨g, 0, none⟩) (less.length + 1) cap3).ownBlock ≠ some w1.heap.size) := by
                intro h
                have hg : g = w1.heap.size := by simpa [Value.ownBlock] using h
                rcases hat with h1 | h1
                · exact HP4.out (by rw [h1, hg])
                · first | omega | (simp at h1; omega)
              have HCN : Hid (∀ (j : Nat) x, parts[j]? = some x → w5.cell? ⟨w1.heap.size, j, none⟩ = some (.string ⟨x.toArray⟩)) := by
                intro j x hx
                refine hgrow.cell ?_ (fun h => HP4.out h.symm)
                rw [World.cell?_alloc_lt _ _ ⟨w1.heap.size, j, none⟩ k4]
                exact HK2.out j x hx
              have HBN : Hid (Below w.heap.size w w5) := (HK3.out.alloc hk3 _).grown hgrow (by simp; omega) (fun k hk => (HO4.lt k hk).1)
              have hzn : w1.heap.size < w5.heap.size := by
                have := hgrow.size
                simp at this
                omega
              clear hown' hgrow HO4 hat
              go_wp2
              go_roundw
              case rel =>
                refine ⟨q + 1, less ++ [[]], by omega, by go_num, ?_, ?_, HCN.out, HST.out, by simp; omega, ?_, HBN.out, hzn⟩
                · rw [List.length_append, strs_app]
                  exact HOW.out
                · exact HPN.out
                · intro x hx
                  rcases List.mem_append.1 hx with hx | hx
                  · exact HX4.out x hx
                  · simp at hx; subst hx; simp
              case measure => (simp [intOf]; try omega)
            · have HST : Hid (segLoop sc less (parts.drop (q + 1)) = goal) := by
                have := HT2.out
                rw [HLE.out, decide_eq_false hla] at this
                show _ = _
                simpa using this
              have hlb : ((q : Int) == (parts.length : Int) - 1) = false := beq_eq_false_iff_ne.2 (by omega)
              clear HLE HT2
              go_wp2_with fail
              refine HDO.out.mono ?_
              rintro e w4 ⟨rfl, b4⟩
              go_wp2_with fail
              refine (HWL.out w4 b4).mono ?_
              rintro e w6 ⟨rfl, hw6⟩
              have hw6 := hw6.symm
              subst hw6
              obtain ⟨_, k2, k3, k4, k5⟩ := KEEP.out w4 b4
              have HK1 : Hid (w4.ownsRow w.heap.size 9 1 (.slice sp2 less.length cap2) less.length (strs less)) := HOL.out w4 b4
              have HK2 : Hid (∀ (j : Nat) x, parts[j]? = some x → w4.cell? ⟨w1.heap.size, j, none⟩ = some (.string ⟨x.toArray⟩)) := k2
              have HK3 : Hid (Below w.heap.size w w4) := k3
              clear k2 k3 k5
              go_wp2
              go_roundw
              case rel => exact ⟨q + 1, less, by omega, by go_num, HK1.out, HP4.out, HK2.out, HST.out, by omega, HX4.out, HK3.out, k4⟩
              case measure => (simp [intOf]; try omega)
        · have HG : Hid (segs = goal) := by
            show _ = _
            rw [← HR3.out, List.drop_eq_nil_of_le (by omega)]
            rfl
          go_wp2
          go_ret
          rw [← HG.out]
          exact ⟨⟨_, rfl, HO3.out⟩, HB3.out⟩
    · have e0 := empty_no t hte
      obtain ⟨s, hsd⟩ : ∃ s : ByteArray, s = ⟨t.toArray⟩ := ⟨_, rfl⟩
      rw [← hsd] at e0 HTP ⊢
      clear hsd hnone hte HSP
      go_enter Tryz.func212, Tryz.ntmps212
      go_wp2_with fail
      refine HCL.out.mono ?_
      rintro e w1 ⟨⟨v, rfl, ho⟩, b1⟩
      have HO : Hid (w1.ownsRow w.heap.size 9 1 v begun.length (strs begun)) := ho
      have HV1 : Hid (Tryz.Env2 w1) := HV.out.below b1
      clear ho
      go_wp2_with fail
      refine (HTP.out w1).mono ?_
      rintro e w2 ⟨rfl, hw0⟩
      have hw0 := hw0.symm
      subst hw0
      go_wp2_with fail
      refine (HSPL.out w1 HV1.out.env).mono ?_
      rintro e w2 ⟨rfl, b2, hzp, hcp⟩
      have HO2 : Hid (w2.ownsRow w.heap.size 9 1 v begun.length (strs begun)) := own_below HO.out b2
      have HPB : Hid (v.ownBlock ≠ some w1.heap.size) := fun h => by
        have := own_block_lt HO.out _ h
        omega
      have HCP : Hid (∀ (j : Nat) x, parts[j]? = some x → w2.cell? ⟨w1.heap.size, j, none⟩ = some (.string ⟨x.toArray⟩)) := hcp
      have HB2 : Hid (Below w.heap.size w w2) := b1.trans (b2.mono b1.size)
      have hw1z := b1.size
      clear hcp b1 b2 HO
      go_wp2_with fail
      go_loopw [7, 27] (fun s i wr => ∃ (q : Nat) (segs : List Bs), q ≤ parts.length ∧ i = .int .i64 q ∧ wr.ownsRow w.heap.size 9 1 s segs.length (strs segs) ∧ s.ownBlock ≠ some w1.heap.size ∧ (∀ (j : Nat) x, parts[j]? = some x → wr.cell? ⟨w1.heap.size, j, none⟩ = some (.string ⟨x.toArray⟩)) ∧ segLoop sc segs (parts.drop q) = goal ∧ segs.length ≤ 1000000 + q ∧ (∀ x ∈ segs, x.length ≤ 1000000) ∧ Below w.heap.size w wr ∧ w1.heap.size < wr.heap.size) (fun _ i _ => parts.length - (intOf i).toNat)
      case atStart => exact ⟨0, begun, Nat.zero_le _, rfl, HO2.out, HPB.out, HCP.out, HE.out.symm, by omega, hbx, HB2.out, hzp⟩
      case round =>
        obtain ⟨q, segs, hq, rfl, hown, hpb, hcp, hrest, hsl, hsx, hbw, hwz⟩ := hrel
        obtain ⟨sp2, cap2, hvf, hnc, hcm, hf2⟩ := own_shape hown
        subst hvf
        have HO3 : Hid (wr.ownsRow w.heap.size 9 1 (.slice sp2 segs.length cap2) segs.length (strs segs)) := hown
        have HP3 : Hid ((Value.slice sp2 segs.length cap2).ownBlock ≠ some w1.heap.size) := hpb
        have HC3 : Hid (∀ (j : Nat) x, parts[j]? = some x → wr.cell? ⟨w1.heap.size, j, none⟩ = some (.string ⟨x.toArray⟩)) := hcp
        have HR3 : Hid (segLoop sc segs (parts.drop q) = goal) := hrest
        have HX3 : Hid (∀ x ∈ segs, x.length ≤ 1000000) := hsx
        have HB3 : Hid (Below w.heap.size w wr) := hbw
        have HV3 : Hid (Tryz.Env2 wr) := HV.out.below hbw
        have hbz := hbw.size
        unfold maxLen at hcm
        clear hown hpb hcp hrest hsx hbw hf2
        by_cases hlt : q < parts.length
        · obtain ⟨p, hp⟩ : ∃ p, parts[q]? = some p := ⟨parts[q]'hlt, List.getElem?_eq_getElem hlt⟩
          have hcq := HC3.out q p hp
          have hpl := HPL.out p (List.mem_of_getElem? hp)
          have HDR : Hid (parts.drop q = p :: parts.drop (q + 1)) := by
            obtain ⟨h1, h2⟩ := List.getElem?_eq_some_iff.1 hp
            show _ = _
            rw [List.drop_eq_getElem_cons h1, h2]
          have HLE : Hid ((parts.drop (q + 1)).isEmpty = decide (q + 1 = parts.length)) := by
            show _ = _
            by_cases h : q + 1 = parts.length
            · rw [List.drop_eq_nil_of_le (by omega), decide_eq_true h]
              rfl
            · rw [decide_eq_false h]
              cases hd : parts.drop (q + 1) with
              | nil =>
                have := congrArg List.length hd
                rw [List.length_drop] at this
                simp at this
                omega
              | cons a b => rfl
          clear hp
          have HDO : Hid (Calls Tryz.prog 251 #[.string ⟨p.toArray⟩] wr fun e w' => e = .returned (.string ⟨(dotsTxt p).toArray⟩) ∧ Below wr.heap.size wr w') := Tryz.dotsOf_any p wr (by omega) HV3.out.env
          have KEEP : Hid (∀ w3, Below wr.heap.size wr w3 → w3.ownsRow w.heap.size 9 1 (.slice sp2 segs.length cap2) segs.length (strs segs) ∧ (∀ (j : Nat) x, parts[j]? = some x → w3.cell? ⟨w1.heap.size, j, none⟩ = some (.string ⟨x.toArray⟩)) ∧ Below w.heap.size w w3 ∧ w1.heap.size < w3.heap.size ∧ Tryz.Env2 w3) := by
            intro w3 h3
            have hb := HB3.out.trans (h3.mono hbz)
            refine ⟨own_below HO3.out h3, fun j x hx => ?_, hb, Nat.lt_of_lt_of_le hwz h3.size, HV.out.below hb⟩
            rw [h3.cell (p := ⟨w1.heap.size, j, none⟩) hwz]
            exact HC3.out j x hx
          rcases dots_le p with hd | hd | hd
          · have HD : Hid (dotsTxt p = []) := by show _ = _; unfold dotsTxt; rw [if_neg (by omega), if_neg (by omega)]
            have HST : Hid (segLoop sc (segs ++ [tellSeg sc p segs.isEmpty]) (parts.drop (q + 1)) = goal) := by
              show _ = _
              rw [← HR3.out, HDR.out, segLoop_cons sc segs p _ hd]
            have htsl := tellSeg_len sc p segs.isEmpty
            have HTS : Hid (∀ w3, Below wr.heap.size wr w3 → Calls Tryz.prog 252 #[.string ⟨sc.toArray⟩, .string ⟨p.toArray⟩, .bool segs.isEmpty] w3 fun e w' => e = .returned (.string ⟨(tellSeg sc p segs.isEmpty).toArray⟩) ∧ Below wr.heap.size wr w') := by
              intro w3 h3
              refine (Tryz.tellSegment_any sc p segs.isEmpty w3 (by omega) (KEEP.out w3 h3).2.2.2.2.env).mono ?_
              rintro e w' ⟨rfl, hb⟩
              exact ⟨rfl, h3.trans (hb.mono h3.size)⟩
            have hfb : ((segs.length : Int) == 0) = segs.isEmpty := by
              cases segs with
              | nil => rfl
              | cons a b => simp; omega
            rw [HD.out] at HDO
            generalize tellSeg sc p segs.isEmpty = ts at *
            generalize segs.isEmpty = fl at *
            have e1 := empty_yes
            clear hd HD
            go_wp2_with fail
            refine HDO.out.mono ?_
            rintro e w3 ⟨rfl, b3⟩
            go_wp2_with fail
            refine (HTS.out w3 b3).mono ?_
            rintro e w4 ⟨rfl, b4⟩
            obtain ⟨k1, k2, k3, k4, k5⟩ := KEEP.out w4 b4
            have HK2 : Hid (∀ (j : Nat) x, parts[j]? = some x → w4.cell? ⟨w1.heap.size, j, none⟩ = some (.string ⟨x.toArray⟩)) := k2
            have HK3 : Hid (Below w.heap.size w w4) := k3
            have hk3 := k3.size
            have HO4 := k1.alloc (.cells #[.string ⟨ts.toArray⟩] 9)
            clear k1 k2 k3 k5
            go_wp2_with (at_builtin; refine wpList_append_lies _ rfl _ _ 28 rfl w.heap.size 9 i0 (.string ⟨#[]⟩) 1 16 Tryz.underlying28 hi hz0 hz1 hz2 rfl (by decide) _ _ _ rfl HO4 ⟨w4.heap.size, 0, none⟩ 1 1 [.string ⟨ts.toArray⟩] rfl rfl ?c1 ?c2 (by decide) ?c3 ?c4 ?c5 _ rfl ?_)
            case c1 =>
              intro j u hj
              match j, hj with
              | 0, hj => simp at hj; subst hj; exact World.cell?_alloc_new w4 #[.string ⟨ts.toArray⟩] 9 0
            case c2 => intro u hu; simp at hu; subst hu; rfl
            case c3 => unfold maxLen; omega
            case c4 => omega
            case c5 => simp; omega
            intro g cap3 w5 hown' hgrow hat hglt
            have HOW : Hid (w5.ownsRow w.heap.size 9 1 (.slice (some ⟨g, 0, none⟩) (segs.length + 1) cap3) (segs.length + 1) (strs segs ++ [.string ⟨ts.toArray⟩])) := hown'
            have HPN : Hid ((Value.slice (some ⟨g, 0, none⟩) (segs.length + 1) cap3).ownBlock ≠ some w1.heap.size) := by
              intro h
              have hg : g = w1.heap.size := by simpa [Value.ownBlock] using h
              rcases hat with h1 | h1
              · exact HP3.out (by rw [h1, hg])
              · first | omega | (simp at h1; omega)
            have HCN : Hid (∀ (j : Nat) x, parts[j]? = some x → w5.cell? ⟨w1.heap.size, j, none⟩ = some (.string ⟨x.toArray⟩)) := by
              intro j x hx
              refine hgrow.cell ?_ (fun h => HP3.out h.symm)
              rw [World.cell?_alloc_lt _ _ ⟨w1.heap.size, j, none⟩ k4]
              exact HK2.out j x hx
            have HBN : Hid (Below w.heap.size w w5) := (HK3.out.alloc hk3 _).grown hgrow (by simp; omega) (fun k hk => (HO4.lt k hk).1)
            have hzn : w1.heap.size < w5.heap.size := by
              have := hgrow.size
              simp at this
              omega
            clear hown' hgrow HO4 hat
            go_wp2
            go_roundw
            case rel =>
              refine ⟨q + 1, segs ++ [ts], by omega, by go_num, ?_, ?_, HCN.out, HST.out, by simp; omega, ?_, HBN.out, hzn⟩
              · rw [List.length_append, strs_app]
                exact HOW.out
              · exact HPN.out
              · intro x hx
                rcases List.mem_append.1 hx with hx | hx
                · exact HX3.out x hx
                · simp at hx; subst hx; omega
            case measure => (simp [intOf]; try omega)
          · have HD : Hid (dotsTxt p = [46]) := by show _ = _; unfold dotsTxt; rw [if_pos hd]
            rw [HD.out] at HDO
            have HX4 : Hid (∀ x ∈ segs, x.length ≤ 1000000) := HX3.out
            have HP4 : Hid ((Value.slice sp2 segs.length cap2).ownBlock ≠ some w1.heap.size) := HP3.out
            by_cases hla : q + 1 = parts.length
            · have HST : Hid (segLoop sc (segs ++ [[]]) (parts.drop (q + 1)) = goal) := by
                show _ = _
                rw [← HR3.out, HDR.out, segLoop_one sc segs p _ hd, HLE.out, decide_eq_true hla]
                rfl
              have hlb : ((q : Int) == (parts.length : Int) - 1) = true := by rw [beq_iff_eq]; omega
              clear hd HD HDR HLE
              go_wp2_with fail
              refine HDO.out.mono ?_
              rintro e w4 ⟨rfl, b4⟩
              obtain ⟨k1, k2, k3, k4, k5⟩ := KEEP.out w4 b4
              have HK2 : Hid (∀ (j : Nat) x, parts[j]? = some x → w4.cell? ⟨w1.heap.size, j, none⟩ = some (.string ⟨x.toArray⟩)) := k2
              have HK3 : Hid (Below w.heap.size w w4) := k3
              have hk3 := k3.size
              have HO4 := k1.alloc (.cells #[.string ⟨#[]⟩] 9)
              clear k1 k2 k3 k5
              go_wp2_with (at_builtin; refine wpList_append_lies _ rfl _ _ 28 rfl w.heap.size 9 i0 (.string ⟨#[]⟩) 1 16 Tryz.underlying28 hi hz0 hz1 hz2 rfl (by decide) _ _ _ rfl HO4 ⟨w4.heap.size, 0, none⟩ 1 1 [.string ⟨#[]⟩] rfl rfl ?c1 ?c2 (by decide) ?c3 ?c4 ?c5 _ rfl ?_)
              case c1 =>
                intro j u hj
                match j, hj with
                | 0, hj => simp at hj; subst hj; exact World.cell?_alloc_new w4 #[.string ⟨#[]⟩] 9 0
              case c2 => intro u hu; simp at hu; subst hu; rfl
              case c3 => unfold maxLen; omega
              case c4 => omega
              case c5 => simp; omega
              intro g cap3 w5 hown' hgrow hat hglt
              have HOW : Hid (w5.ownsRow w.heap.size 9 1 (.slice (some ⟨g, 0, none⟩) (segs.length + 1) cap3) (segs.length + 1) (strs segs ++ [.string ⟨#[]⟩])) := hown'
              have HPN : Hid ((Value.slice (some ⟨g, 0, none⟩) (segs.length + 1) cap3).ownBlock ≠ some w1.heap.size) := by
                intro h
                have hg : g = w1.heap.size := by simpa [Value.ownBlock] using h
                rcases hat with h1 | h1
                · exact HP4.out (by rw [h1, hg])
                · first | omega | (simp at h1; omega)
              have HCN : Hid (∀ (j : Nat) x, parts[j]? = some x → w5.cell? ⟨w1.heap.size, j, none⟩ = some (.string ⟨x.toArray⟩)) := by
                intro j x hx
                refine hgrow.cell ?_ (fun h => HP4.out h.symm)
                rw [World.cell?_alloc_lt _ _ ⟨w1.heap.size, j, none⟩ k4]
                exact HK2.out j x hx
              have HBN : Hid (Below w.heap.size w w5) := (HK3.out.alloc hk3 _).grown hgrow (by simp; omega) (fun k hk => (HO4.lt k hk).1)
              have hzn : w1.heap.size < w5.heap.size := by
                have := hgrow.size
                simp at this
                omega
              clear hown' hgrow HO4 hat
              go_wp2
              go_roundw
              case rel =>
                refine ⟨q + 1, segs ++ [[]], by omega, by go_num, ?_, ?_, HCN.out, HST.out, by simp; omega, ?_, HBN.out, hzn⟩
                · rw [List.length_append, strs_app]
                  exact HOW.out
                · exact HPN.out
                · intro x hx
                  rcases List.mem_append.1 hx with hx | hx
                  · exact HX4.out x hx
                  · simp at hx; subst hx; simp
              case measure => (simp [intOf]; try omega)
            · have HST : Hid (segLoop sc segs (parts.drop (q + 1)) = goal) := by
                show _ = _
                rw [← HR3.out, HDR.out, segLoop_one sc segs p _ hd, HLE.out, decide_eq_false hla]
                simp
              have hlb : ((q : Int) == (parts.length : Int) - 1) = false := beq_eq_false_iff_ne.2 (by omega)
              clear hd HD HDR HLE
              go_wp2_with fail
              refine HDO.out.mono ?_
              rintro e w4 ⟨rfl, b4⟩
              obtain ⟨k1, k2, k3, k4, k5⟩ := KEEP.out w4 b4
              have HK1 : Hid (w4.ownsRow w.heap.size 9 1 (.slice sp2 segs.length cap2) segs.length (strs segs)) := k1
              have HK2 : Hid (∀ (j : Nat) x, parts[j]? = some x → w4.cell? ⟨w1.heap.size, j, none⟩ = some (.string ⟨x.toArray⟩)) := k2
              have HK3 : Hid (Below w.heap.size w w4) := k3
              clear k1 k2 k3 k5
              go_wp2
              go_roundw
              case rel => exact ⟨q + 1, segs, by omega, by go_num, HK1.out, HP3.out, HK2.out, HST.out, by omega, HX3.out, HK3.out, k4⟩
              case measure => (simp [intOf]; try omega)
          · have HD : Hid (dotsTxt p = [46, 46]) := by show _ = _; unfold dotsTxt; rw [if_neg (by omega), if_pos hd]
            rw [HD.out] at HDO
            obtain ⟨hwl, hwm⟩ := withoutLast_mem sc segs
            have HWL : Hid (∀ w3, Below wr.heap.size wr w3 → Calls Tryz.prog 253 #[.string ⟨sc.toArray⟩, .slice sp2 segs.length cap2] w3 fun e w' => e = .returned (.slice sp2 (withoutLast sc segs).length cap2) ∧ w' = w3) := by
              intro w3 h3
              obtain ⟨k1, _⟩ := KEEP.out w3 h3
              refine Tryz.withoutLast_any sc sp2 cap2 segs w3 hnc hcm (fun x hx => by have := HX3.out x hx; omega) ?_
              intro j x hx
              obtain ⟨sp4, cap4, hv4, _, _, hf4⟩ := own_shape k1
              simp only [Value.slice.injEq] at hv4
              obtain ⟨rfl, _, rfl⟩ := hv4
              obtain ⟨g, rfl, hg⟩ := hf4 (by have := (List.getElem?_eq_some_iff.1 hx).1; omega)
              refine ⟨_, rfl, ?_⟩
              rw [add_zero_at]
              exact hg j _ (by unfold strs; rw [List.getElem?_map, hx]; rfl)
            have HOL : Hid (∀ w3, Below wr.heap.size wr w3 → w3.ownsRow w.heap.size 9 1 (.slice sp2 (withoutLast sc segs).length cap2) (withoutLast sc segs).length (strs (withoutLast sc segs))) := fun w3 h3 => own_less sc (KEEP.out w3 h3).1
            have HX4 : Hid (∀ x ∈ withoutLast sc segs, x.length ≤ 1000000) := fun x hx => HX3.out x (hwm x hx)
            have HP4 : Hid ((Value.slice sp2 (withoutLast sc segs).length cap2).ownBlock ≠ some w1.heap.size) := own_block_same (HP3.out)
            have HT2 : Hid (segLoop sc (withoutLast sc segs ++ (if (parts.drop (q + 1)).isEmpty then [[]] else [])) (parts.drop (q + 1)) = goal) := by
              show _ = _
              rw [← HR3.out, HDR.out, segLoop_two sc segs p _ hd]
            clear hd HD HDR hwm
            generalize withoutLast sc segs = less at *
            by_cases hla : q + 1 = parts.length
            · have HST : Hid (segLoop sc (less ++ [[]]) (parts.drop (q + 1)) = goal) := by
                have := HT2.out
                rw [HLE.out, decide_eq_true hla] at this
                exact this
              have hlb : ((q : Int) == (parts.length : Int) - 1) = true := by rw [beq_iff_eq]; omega
              clear HLE HT2
              go_wp2_with fail
              refine HDO.out.mono ?_
              rintro e w4 ⟨rfl, b4⟩
              go_wp2_with fail
              refine (HWL.out w4 b4).mono ?_
              rintro e w6 ⟨rfl, hw6⟩
              have hw6 := hw6.symm
              subst hw6
              obtain ⟨_, k2, k3, k4, k5⟩ := KEEP.out w4 b4
              have k1 := HOL.out w4 b4
              have HK2 : Hid (∀ (j : Nat) x, parts[j]? = some x → w4.cell? ⟨w1.heap.size, j, none⟩ = some (.string ⟨x.toArray⟩)) := k2
              have HK3 : Hid (Below w.heap.size w w4) := k3
              have hk3 := k3.size
              have HO4 := k1.alloc (.cells #[.string ⟨#[]⟩] 9)
              clear k1 k2 k3 k5
              go_wp2_with (at_builtin; refine wpList_append_lies _ rfl _ _ 28 rfl w.heap.size 9 i0 (.string ⟨#[]⟩) 1 16 Tryz.underlying28 hi hz0 hz1 hz2 rfl (by decide) _ _ _ rfl HO4 ⟨w4.heap.size, 0, none⟩ 1 1 [.string ⟨#[]⟩] rfl rfl ?c1 ?c2 (by decide) ?c3 ?c4 ?c5 _ rfl ?_)
              case c1 =>
                intro j u hj
                match j, hj with
                | 0, hj => simp at hj; subst hj; exact World.cell?_alloc_new w4 #[.string ⟨#[]⟩] 9 0
              case c2 => intro u hu; simp at hu; subst hu; rfl
              case c3 => unfold maxLen; omega
              case c4 => omega
              case c5 => simp; omega
              intro g cap3 w5 hown' hgrow hat hglt
              have HOW : Hid (w5.ownsRow w.heap.size 9 1 (.slice (some ⟨g, 0, none⟩) (less.length + 1) cap3) (less.length + 1) (strs less ++ [.string ⟨#[]⟩])) := hown'
              have HPN : Hid ((Value.slice (some ⟨g, 0, none⟩) (less.length + 1) cap3).ownBlock ≠ some w1.heap.size) := by
                intro h
                have hg : g = w1.heap.size := by simpa [Value.ownBlock] using h
                rcases hat with h1 | h1
                · exact HP4.out (by rw [h1, hg])
                · first | omega | (simp at h1; omega)
              have HCN : Hid (∀ (j : Nat) x, parts[j]? = some x → w5.cell? ⟨w1.heap.size, j, none⟩ = some (.string ⟨x.toArray⟩)) := by
                intro j x hx
                refine hgrow.cell ?_ (fun h => HP4.out h.symm)
                rw [World.cell?_alloc_lt _ _ ⟨w1.heap.size, j, none⟩ k4]
                exact HK2.out j x hx
              have HBN : Hid (Below w.heap.size w w5) := (HK3.out.alloc hk3 _).grown hgrow (by simp; omega) (fun k hk => (HO4.lt k hk).1)
              have hzn : w1.heap.size < w5.heap.size := by
                have := hgrow.size
                simp at this
                omega
              clear hown' hgrow HO4 hat
              go_wp2
              go_roundw
              case rel =>
                refine ⟨q + 1, less ++ [[]], by omega, by go_num, ?_, ?_, HCN.out, HST.out, by simp; omega, ?_, HBN.out, hzn⟩
                · rw [List.length_append, strs_app]
                  exact HOW.out
                · exact HPN.out
                · intro x hx
                  rcases List.mem_append.1 hx with hx | hx
                  · exact HX4.out x hx
                  · simp at hx; subst hx; simp
              case measure => (simp [intOf]; try omega)
            · have HST : Hid (segLoop sc less (parts.drop (q + 1)) = goal) := by
                have := HT2.out
                rw [HLE.out, decide_eq_false hla] at this
                show _ = _
                simpa using this
              have hlb : ((q : Int) == (parts.length : Int) - 1) = false := beq_eq_false_iff_ne.2 (by omega)
              clear HLE HT2
              go_wp2_with fail
              refine HDO.out.mono ?_
              rintro e w4 ⟨rfl, b4⟩
              go_wp2_with fail
              refine (HWL.out w4 b4).mono ?_
              rintro e w6 ⟨rfl, hw6⟩
              have hw6 := hw6.symm
              subst hw6
              obtain ⟨_, k2, k3, k4, k5⟩ := KEEP.out w4 b4
              have HK1 : Hid (w4.ownsRow w.heap.size 9 1 (.slice sp2 less.length cap2) less.length (strs less)) := HOL.out w4 b4
              have HK2 : Hid (∀ (j : Nat) x, parts[j]? = some x → w4.cell? ⟨w1.heap.size, j, none⟩ = some (.string ⟨x.toArray⟩)) := k2
              have HK3 : Hid (Below w.heap.size w w4) := k3
              clear k2 k3 k5
              go_wp2
              go_roundw
              case rel => exact ⟨q + 1, less, by omega, by go_num, HK1.out, HP4.out, HK2.out, HST.out, by omega, HX4.out, HK3.out, k4⟩
              case measure => (simp [intOf]; try omega)
        · have HG : Hid (segs = goal) := by
            show _ = _
            rw [← HR3.out, List.drop_eq_nil_of_le (by omega)]
            rfl
          go_wp2
          go_ret
          rw [← HG.out]
          exact ⟨⟨_, rfl, HO3.out⟩, HB3.out⟩
end Go.Proofs
