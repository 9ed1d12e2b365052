import Derived.Test.YtkcnageeamappaaGreatDoorXQ4
import Derived.Test.YtkcnageeamappaaGreatDoorXASegs2
import Derived.Lib.Case
import Derived.Test.YtkcnageeamappaaGreatDoorXFPlain
namespace Go.Proofs
open Go.RowKit Go.Moor
theorem lowB_fin : ∀ c : Fin 256, ((Lib.lowerB c.val.toUInt8).toNat : Int) = if 65 ≤ c.val ∧ c.val ≤ 90 then (c.val : Int) + 32 else (c.val : Int) := by decide +kernel
theorem lowB_val (c : UInt8) : ((Lib.lowerB c).toNat : Int) = if 65 ≤ c.toNat ∧ c.toNat ≤ 90 then (c.toNat : Int) + 32 else (c.toNat : Int) := by
  have h := lowB_fin ⟨c.toNat, c.toNat_lt⟩
  simp only at h
  have e : c.toNat.toUInt8 = c := by simp
  rw [e] at h
  exact h
set_option maxHeartbeats 4000000 in
set_option maxRecDepth 4000 in
theorem Tryz.rsmall_any (s : ByteArray) (w : World) (hs : s.size ≤ 35184372088832) :
    Calls Tryz.prog 118 #[.string s] w fun e w' => e = .returned (.string ⟨(Lib.toLowerA s.data.toList).toArray⟩) ∧ Below w.heap.size w w' := by
  obtain ⟨l, hl⟩ : ∃ l, l = s.data.toList := ⟨_, rfl⟩
  have hlen : l.length = s.size := by rw [hl, Array.length_toList]; rfl
  have HG : Hid (∀ (k : Nat) (h : k < s.size) (h2 : k < l.length), l[k] = s[k]) := by
    intro k h h2
    subst hl
    simp
    rfl
  rw [← hl]
  clear hl
  go_enter Tryz.func118, Tryz.ntmps118
  go_wp2_with fail
  go_loopw [3, 4] (fun o i wr => ∃ k : Nat, k ≤ s.size ∧ i = .int .i64 k ∧ o = .string ⟨(Lib.toLowerA (l.take k)).toArray⟩ ∧ Below w.heap.size w wr) (fun _ i _ => s.size - (intOf i).toNat)
  case atStart => exact ⟨0, Nat.zero_le _, rfl, rfl, Below.refl _ _⟩
  case round =>
    obtain ⟨k, hk, rfl, rfl, hb⟩ := hrel
    have HB : Hid (Below w.heap.size w wr) := hb
    clear hb
    by_cases hlt : k < s.size
    · have h2 : k < l.length := by omega
      have hg := HG.out k hlt h2
      have HA : Hid ((⟨(Lib.toLowerA (l.take k)).toArray⟩ : ByteArray) ++ ⟨#[Lib.lowerB s[k]]⟩ = ⟨(Lib.toLowerA (l.take (k + 1))).toArray⟩) := by
        show _ = _
        rw [take_next l k h2, hg]
        unfold Lib.toLowerA
        rw [List.map_append]
        exact app_mk _ [Lib.lowerB s[k]]
      have hsz : (⟨(Lib.toLowerA (l.take k)).toArray⟩ : ByteArray).size ≤ s.size := by
        rw [size_mk]
        unfold Lib.toLowerA
        rw [List.length_map, List.length_take]
        omega
      have hlv := lowB_val s[k]
      have hcl := s[k].toNat_lt
      generalize (⟨(Lib.toLowerA (l.take k)).toArray⟩ : ByteArray) = acc at *
      have G1 : Hid (∀ W : World, (Op.stringOp .add acc ⟨#[Lib.lowerB s[k]]⟩).run Tryz.prog W = .ok (.string (acc ++ ⟨#[Lib.lowerB s[k]]⟩)) W) := fun W => run_string_add_sum W _ _ (by show _ + 1 ≤ _; omega)
      clear hsz hg HG
      by_cases hc : 65 ≤ s[k].toNat ∧ s[k].toNat ≤ 90
      · rw [if_pos hc] at hlv
        have hc1 : (65 : Int) ≤ (s[k].toNat : Int) := by omega
        have hc2 : (s[k].toNat : Int) ≤ 90 := by omega
        have hcv := Tryz.one_text (Lib.lowerB s[k]) ((s[k].toNat : Int) + 32) hlv wr
        have g1 := G1.out
        generalize Lib.lowerB s[k] = x at *
        clear hlv hc
        go_wp2
        go_roundw
        case rel => exact ⟨k + 1, by omega, by go_num, congrArg Value.string HA.out, HB.out.alloc HB.out.size _⟩
        case measure => (simp [intOf]; try omega)
      · rw [if_neg hc] at hlv
        have hcv := Tryz.one_text (Lib.lowerB s[k]) (s[k].toNat : Int) hlv wr
        have g1 := G1.out
        have hcc : ¬ (65 : Int) ≤ (s[k].toNat : Int) ∨ ((65 : Int) ≤ (s[k].toNat : Int) ∧ ¬ (s[k].toNat : Int) ≤ 90) := by omega
        generalize Lib.lowerB s[k] = x at *
        clear hlv hc
        rcases hcc with hc1 | ⟨hc1, hc2⟩
        all_goals
          go_wp2
          go_roundw
          case rel => exact ⟨k + 1, by omega, by go_num, congrArg Value.string HA.out, HB.out.alloc HB.out.size _⟩
          case measure => (simp [intOf]; try omega)
    · have HQ : Hid (l.take k = l) := List.take_of_length_le (by omega)
      rw [HQ.out]
      go_wp2
      go_ret
      exact ⟨rfl, HB.out⟩
theorem extract_list (s : ByteArray) (i j : Nat) : (s.extract i j) = ⟨((s.data.toList.drop i).take (j - i)).toArray⟩ := by
  apply ByteArray.ext
  apply Array.ext'
  rw [ByteArray.data_extract, Array.toList_extract, List.extract_eq_take_drop]
theorem split_at (c : UInt8) (l : List UInt8) (f i : Nat) (hf : f ≤ i) (hi : i < l.length) (hn : ∀ (j : Nat) (hj : j < l.length), f ≤ j → j < i → ¬ l[j] = c) (hc : l[i] = c) : splitOn c (l.drop f) = (l.drop f).take (i - f) :: splitOn c (l.drop (i + 1)) := by
  have e : l.drop f = (l.drop f).take (i - f) ++ c :: l.drop (i + 1) := by
    conv => lhs; rw [← List.take_append_drop (i - f) (l.drop f)]
    rw [List.drop_drop, show f + (i - f) = i by omega, List.drop_eq_getElem_cons hi, hc]
  rw [e, splitOn_hit c _ _ (fun x hx => ?_)]
  · rw [← e]
  · rw [List.mem_iff_getElem?] at hx
    obtain ⟨j, hj⟩ := hx
    rw [List.getElem?_take] at hj
    split at hj
    · rename_i hj2
      rw [List.getElem?_drop] at hj
      have hj3 := List.getElem?_eq_some_iff.1 hj
      obtain ⟨h1, h2⟩ := hj3
      intro hx2
      exact hn (f + j) h1 (by omega) (by omega) (h2.trans hx2)
    · cases hj
theorem split_none (c : UInt8) (l : List UInt8) (f : Nat) (hn : ∀ (j : Nat) (hj : j < l.length), f ≤ j → ¬ l[j] = c) : splitOn c (l.drop f) = [l.drop f] := by
  refine splitOn_miss c _ (fun x hx => ?_)
  rw [List.mem_iff_getElem?] at hx
  obtain ⟨j, hj⟩ := hx
  rw [List.getElem?_drop] at hj
  obtain ⟨h1, h2⟩ := List.getElem?_eq_some_iff.1 hj
  intro hx2
  exact hn (f + j) h1 (by omega) (h2.trans hx2)
set_option maxHeartbeats 8000000 in
set_option maxRecDepth 4000 in
theorem Tryz.rsplit_any (s : ByteArray) (c : UInt8) (w : World) (hs : s.size ≤ 4294967281) :
    Calls Tryz.prog 78 #[.string s, .int .u8 c.toNat] w fun e w' => (∃ v, e = .returned v ∧ w'.ownsRow w.heap.size 9 1 v (splitOn c s.data.toList).length (strs (splitOn c s.data.toList))) ∧ Below w.heap.size w w' := by
  obtain ⟨i0, hi, hz0, hz1, hz2⟩ := info_parts Tryz.infoStr
  obtain ⟨l, hl⟩ : ∃ l, l = s.data.toList := ⟨_, rfl⟩
  have hlen : l.length = s.size := by rw [hl, Array.length_toList]; rfl
  have HG : Hid (∀ (k : Nat) (h : k < s.size) (h2 : k < l.length), l[k] = s[k]) := by
    intro k h h2
    subst hl
    simp
    rfl
  have HXT : Hid (∀ i j : Nat, s.extract i j = ⟨((l.drop i).take (j - i)).toArray⟩) := by
    intro i j
    rw [hl]
    exact extract_list s i j
  rw [← hl]
  have HLN : Hid (l.length = s.size) := hlen
  clear hl
  go_enter Tryz.func78, Tryz.ntmps78
  go_wp2_with fail
  go_loopw [5, 6, 7] (fun v f i wr => ∃ (a k : Nat) (ps : List (List UInt8)), a ≤ k ∧ k ≤ s.size ∧ ps.length ≤ a ∧ f = .int .i64 a ∧ i = .int .i64 k ∧ wr.ownsRow w.heap.size 9 1 v ps.length (strs ps) ∧ ps ++ splitOn c (l.drop a) = splitOn c l ∧ (∀ (j : Nat) (hj : j < l.length), a ≤ j → j < k → ¬ l[j] = c) ∧ Below w.heap.size w wr) (fun _ _ i _ => s.size - (intOf i).toNat)
  case atStart => exact ⟨0, 0, [], Nat.le_refl _, Nat.zero_le _, Nat.le_refl _, rfl, rfl, ⟨rfl, Or.inl ⟨rfl, rfl⟩⟩, rfl, fun j hj h1 h2 => by omega, Below.refl _ _⟩
  case round =>
    obtain ⟨a, k, ps, hak, hk, hpl, rfl, rfl, hown, hrest, hno, hb⟩ := hrel
    obtain ⟨sp, cap, rfl, _⟩ := own_shape hown
    have HB : Hid (Below w.heap.size w wr) := hb
    have HO : Hid (wr.ownsRow w.heap.size 9 1 (.slice sp ps.length cap) ps.length (strs ps)) := hown
    have HRE : Hid (ps ++ splitOn c (l.drop a) = splitOn c l) := hrest
    have HNO : Hid (∀ (j : Nat) (hj : j < l.length), a ≤ j → j < k → ¬ l[j] = c) := hno
    have hbz := hb.size
    clear hb hown hrest hno
    by_cases hlt : k < s.size
    · have h2 : k < l.length := by omega
      have hg := HG.out k hlt h2
      by_cases hc : s[k] = c
      · have hc2 : ((s[k].toNat : Int) == (c.toNat : Int)) = true := by rw [hc]; simp
        have HX : Hid (s.extract a k = ⟨((l.drop a).take (k - a)).toArray⟩) := HXT.out a k
        have HFI : Hid ((ps ++ [(l.drop a).take (k - a)]) ++ splitOn c (l.drop (k + 1)) = splitOn c l) := by
          show _ = _
          rw [← HRE.out, split_at c l a k hak h2 HNO.out (hg.trans hc)]
          simp
        generalize (l.drop a).take (k - a) = pc at *
        obtain ⟨xb, hxb⟩ : ∃ xb : ByteArray, xb = s.extract a k := ⟨_, rfl⟩
        have HXB : Hid (xb = ⟨pc.toArray⟩) := hxb.trans HX.out
        have hxb2 : s.extract a k = xb := hxb.symm
        have hak2 : (a : Int) ≤ (k : Int) := by omega
        have hks : (k : Int) ≤ (s.size : Int) := by omega
        have ha0 : (0 : Int) ≤ (a : Int) := by omega
        have HO4 := HO.out.alloc (.cells #[.string xb] 9)
        clear hg hxb HX hc
        go_wp2_with (at_builtin; refine wpList_append_lies _ rfl _ _ 28 rfl w.heap.size 9 i0 (.string ⟨#[]⟩) 1 16 Tryz.underlying28 hi hz0 hz1 hz2 rfl (by decide) _ _ _ rfl HO4 ⟨wr.heap.size, 0, none⟩ 1 1 [.string xb] rfl rfl ?c1 ?c2 (by decide) ?c3 ?c4 ?c5 _ rfl ?_)
        case c1 =>
          intro j u hj
          match j, hj with
          | 0, hj => simp at hj; subst hj; exact World.cell?_alloc_new wr #[.string xb] 9 0
        case c2 => intro u hu; simp at hu; subst hu; rfl
        case c3 => unfold maxLen; omega
        case c4 => omega
        case c5 => simp; omega
        intro g cap3 w5 hown' hgrow hat hglt
        have HOW : Hid (w5.ownsRow w.heap.size 9 1 (.slice (some ⟨g, 0, none⟩) (ps.length + 1) cap3) (ps.length + 1) (strs ps ++ [.string xb])) := hown'
        have HBN : Hid (Below w.heap.size w w5) := (HB.out.alloc hbz _).grown hgrow (by simp; omega) (fun k hk => (HO4.lt k hk).1)
        clear hown' hgrow HO4 hat
        go_wp2
        go_roundw
        case rel =>
          refine ⟨k + 1, k + 1, ps ++ [pc], Nat.le_refl _, by omega, by simp; omega, by go_num, by go_num, ?_, HFI.out, fun j hj h1 h2 => by omega, HBN.out⟩
          rw [List.length_append, strs_app]
          have e : strs [pc] = [.string xb] := by rw [HXB.out]; rfl
          rw [e]
          exact HOW.out
        case measure => (simp [intOf]; try omega)
      · have hc2 : ((s[k].toNat : Int) == (c.toNat : Int)) = false := by
          rw [beq_eq_false_iff_ne]
          intro h
          exact hc (UInt8.toNat_inj.1 (by omega))
        have HNX : Hid (∀ (j : Nat) (hj : j < l.length), a ≤ j → j < k + 1 → ¬ l[j] = c) := by
          intro j hj h1 h3
          by_cases e : j = k
          · subst e; rw [hg]; exact hc
          · exact HNO.out j hj h1 (by omega)
        clear hg
        go_wp2
        go_roundw
        case rel => exact ⟨a, k + 1, ps, by omega, by omega, hpl, rfl, by go_num, HO.out, HRE.out, HNX.out, HB.out⟩
        case measure => (simp [intOf]; try omega)
    · have hke : k = s.size := by omega
      subst hke
      have HFI : Hid (ps ++ [l.drop a] = splitOn c l) := by
        show _ = _
        rw [← HRE.out, split_none c l a (fun j hj h1 => HNO.out j hj h1 (by omega))]
      have HX : Hid (s.extract a s.size = ⟨(l.drop a).toArray⟩) := by
        show _ = _
        rw [HXT.out a s.size, List.take_of_length_le (by rw [List.length_drop]; omega)]
      generalize l.drop a = pc at *
      obtain ⟨xb, hxb⟩ : ∃ xb : ByteArray, xb = s.extract a s.size := ⟨_, rfl⟩
      have HXB : Hid (xb = ⟨pc.toArray⟩) := hxb.trans HX.out
      have hxb2 : s.extract a s.size = xb := hxb.symm
      have hak2 : (a : Int) ≤ (s.size : Int) := by omega
      have ha0 : (0 : Int) ≤ (a : Int) := by omega
      have HO4 := HO.out.alloc (.cells #[.string xb] 9)
      clear hxb HX
      go_wp2_with (at_builtin; refine wpList_append_lies _ rfl _ _ 28 rfl w.heap.size 9 i0 (.string ⟨#[]⟩) 1 16 Tryz.underlying28 hi hz0 hz1 hz2 rfl (by decide) _ _ _ rfl HO4 ⟨wr.heap.size, 0, none⟩ 1 1 [.string xb] rfl rfl ?c1 ?c2 (by decide) ?c3 ?c4 ?c5 _ rfl ?_)
      case c1 =>
        intro j u hj
        match j, hj with
        | 0, hj => simp at hj; subst hj; exact World.cell?_alloc_new wr #[.string xb] 9 0
      case c2 => intro u hu; simp at hu; subst hu; rfl
      case c3 => unfold maxLen; omega
      case c4 => omega
      case c5 => simp; omega
      intro g cap3 w5 hown' hgrow hat hglt
      have HOW : Hid (w5.ownsRow w.heap.size 9 1 (.slice (some ⟨g, 0, none⟩) (ps.length + 1) cap3) (ps.length + 1) (strs ps ++ [.string xb])) := hown'
      have HBN : Hid (Below w.heap.size w w5) := (HB.out.alloc hbz _).grown hgrow (by simp; omega) (fun k hk => (HO4.lt k hk).1)
      clear hown' hgrow HO4 hat
      go_wp2
      go_ret
      refine ⟨⟨_, rfl, ?_⟩, HBN.out⟩
      rw [← HFI.out, List.length_append, strs_app]
      have e : strs [pc] = [.string xb] := by rw [HXB.out]; rfl
      rw [e]
      exact HOW.out
end Go.Proofs
namespace Go.Proofs
open Go.RowKit Go.Moor
theorem dig_fin : ∀ c : Fin 256, decide (hexVal c.val < 10) = decide (48 ≤ c.val ∧ c.val ≤ 57) := by decide +kernel
theorem dig_is (c : UInt8) : decide (hexVal c.toNat < 10) = refDigit c := dig_fin ⟨c.toNat, c.toNat_lt⟩
theorem allB_dig (l : List UInt8) : allB 10 l = l.all refDigit := by
  unfold allB
  congr 1
  funext c
  exact dig_is c
theorem numLabel_is (l : List UInt8) : numLabel l = if l = [] then false else if l.all refDigit then true else if Lib.hasPrefix l [48, 120] then allB 16 (l.drop 2) else false := by
  unfold numLabel
  by_cases h0 : l = []
  · subst h0; rfl
  · rw [if_neg h0]
    by_cases hp : Lib.hasPrefix l [48, 120] = true
    · have hx : ¬ l.all refDigit = true := by
        intro h
        match l, hp, h with
        | [], hp, _ => simp [Lib.hasPrefix] at hp
        | [a], hp, _ => simp [Lib.hasPrefix] at hp
        | a :: b :: r, hp, h =>
          simp [Lib.hasPrefix] at hp
          rw [List.all_eq_true] at h
          have := h b (by simp)
          rw [← hp.2] at this
          exact absurd this (by decide)
      rw [if_pos hp, if_neg hx, if_pos hp]
    · rw [if_neg hp, allB_dig]
      have he : l.isEmpty = false := by cases l with | nil => exact absurd rfl h0 | cons => rfl
      rw [he]
      by_cases ha : l.all refDigit = true
      · rw [if_pos ha, ha]; rfl
      · rw [if_neg ha, if_neg hp]
        have : l.all refDigit = false := by simpa using ha
        rw [this]; rfl
set_option maxHeartbeats 8000000 in
set_option maxRecDepth 4000 in
theorem Tryz.rnumeric_any (s : ByteArray) (w : World) (hs : s.size ≤ 35184372088832) :
    Calls Tryz.prog 119 #[.string s] w fun e w' => e = .returned (.bool (numLabel s.data.toList)) ∧ w' = w := by
  obtain ⟨l, hl⟩ : ∃ l, l = s.data.toList := ⟨_, rfl⟩
  have hlen : l.length = s.size := by rw [hl, Array.length_toList]; rfl
  have HG : Hid (∀ (k : Nat) (h : k < s.size) (h2 : k < l.length), l[k] = s[k]) := by
    intro k h h2
    subst hl
    simp
    rfl
  have HXT : Hid (∀ i j : Nat, s.extract i j = ⟨((l.drop i).take (j - i)).toArray⟩) := by
    intro i j
    rw [hl]
    exact extract_list s i j
  have hemp : s.toList.isEmpty = l.isEmpty := by rw [hl, Lib.toList_data]
  rw [← hl, numLabel_is]
  have HDI : Hid (∀ (c : UInt8) w1, Calls Tryz.prog 173 #[.int .u8 c.toNat] w1 fun e w' => e = .returned (.bool (refDigit c)) ∧ w' = w1) := fun c w1 => Tryz.rdigit_any c w1
  have HHX : Hid (∀ (c : UInt8) w1, Calls Tryz.prog 66 #[.int .u8 c.toNat] w1 fun e w' => e = .returned (.int .i64 (refHex c)) ∧ w' = w1) := fun c w1 => Tryz.rhex_any c w1
  have HLN : Hid (l.length = s.size) := hlen
  clear hl
  by_cases h0 : l = []
  · rw [if_pos h0]
    rw [h0] at hemp
    have hemp2 : s.toList.isEmpty = true := hemp
    clear hemp
    go_enter Tryz.func119, Tryz.ntmps119
    go_wp2
    go_ret
    exact ⟨rfl, rfl⟩
  · rw [if_neg h0]
    have he : l.isEmpty = false := by cases l with | nil => exact absurd rfl h0 | cons => rfl
    rw [he] at hemp
    suffices key : ∀ res : Bool, Hid (l.all refDigit = true → res = true) → Hid (l.all refDigit = false → res = if Lib.hasPrefix l [48, 120] then allB 16 (l.drop 2) else false) → Calls Tryz.prog 119 #[.string s] w fun e w' => e = .returned (.bool res) ∧ w' = w from key _ (fun h => if_pos h) (fun h => if_neg (by simp [h]))
    intro res HR1 HR2
    go_enter Tryz.func119, Tryz.ntmps119
    go_wp2_with fail
    go_loopw [3, 4] (fun o i wr => ∃ k : Nat, k ≤ s.size ∧ i = .int .i64 k ∧ o = .bool ((l.take k).all refDigit) ∧ wr = w) (fun _ i _ => s.size - (intOf i).toNat)
    case atStart => exact ⟨0, Nat.zero_le _, rfl, rfl, rfl⟩
    case round =>
      obtain ⟨k, hk, rfl, rfl, hwr⟩ := hrel
      have hwr := hwr.symm
      subst hwr
      by_cases hlt : k < s.size
      · have h2 : k < l.length := by omega
        have hg := HG.out k hlt h2
        have HNX : Hid ((l.take (k + 1)).all refDigit = ((l.take k).all refDigit && refDigit s[k])) := by
          show _ = _
          rw [take_next l k h2, List.all_append, hg]
          simp
        have HD : Hid _ := HDI.out s[k] w
        generalize (l.take k).all refDigit = ac at *
        generalize refDigit s[k] = d at *
        clear hg
        go_wp2_with fail
        refine Calls.mono HD.out ?_
        rintro e W0 ⟨rfl, hw0⟩
        have hw0 := hw0.symm
        subst hw0
        cases ac with
        | true =>
          go_wp2
          go_roundw
          case rel => exact ⟨k + 1, by omega, by go_num, by rw [HNX.out]; rfl, trivial⟩
          case measure => (simp [intOf]; try omega)
        | false =>
          go_wp2
          go_roundw
          case rel => exact ⟨k + 1, by omega, by go_num, by rw [HNX.out]; rfl, trivial⟩
          case measure => (simp [intOf]; try omega)
      · have hte : l.take k = l := List.take_of_length_le (by omega)
        rw [hte]
        clear hte
        cases hall : l.all refDigit with
        | true =>
          have hres := HR1.out hall
          subst hres
          go_wp2
          go_ret
          exact ⟨rfl, rfl⟩
        | false =>
          have hres := HR2.out hall
          have HRES : Hid _ := hres
          clear hres HR1 HR2 hall HDI
          by_cases h2 : s.size < 2
          · have hi2 : (s.size : Int) < 2 := by omega
            have HRF : Hid (res = false) := by
              show _ = _
              rw [HRES.out, if_neg]
              intro hp
              match l, hp, HLN.out with
              | [], hp, _ => simp [Lib.hasPrefix] at hp
              | [a], hp, _ => simp [Lib.hasPrefix] at hp
              | a :: b :: r, _, hl => simp at hl; omega
            go_wp2
            go_ret
            rw [HRF.out]
            exact ⟨rfl, rfl⟩
          · have hi2 : ¬ (s.size : Int) < 2 := by omega
            have hi3 : (2 : Int) ≤ (s.size : Int) := by omega
            have hpx : ((s.extract 0 2).toList == [48, 120]) = Lib.hasPrefix l [48, 120] := by
              rw [HXT.out 0 2, Lib.toList_data]
              show (List.take 2 (List.drop 0 l) == [48, 120]) = _
              match l, HLN.out with
              | [], hl => simp at hl; omega
              | [a], hl => simp at hl; omega
              | a :: b :: r, _ =>
                simp [Lib.hasPrefix]
                rw [Bool.eq_iff_iff]
                simp
                constructor
                · rintro ⟨rfl, rfl⟩; exact ⟨rfl, rfl⟩
                · rintro ⟨rfl, rfl⟩; exact ⟨rfl, rfl⟩
            cases hp : Lib.hasPrefix l [48, 120] with
            | false =>
              rw [hp] at hpx
              have HRF : Hid (res = false) := by
                show _ = _
                rw [HRES.out, if_neg (by simp [hp])]
              clear hp
              go_wp2
              go_ret
              rw [HRF.out]
              exact ⟨rfl, rfl⟩
            | true =>
              rw [hp] at hpx
              have HRF : Hid (res = allB 16 (l.drop 2)) := by
                show _ = _
                rw [HRES.out, if_pos hp]
              clear hp HRES
              go_wp2_with fail
              go_loopw [6] (fun i wr => ∃ k : Nat, 2 ≤ k ∧ k ≤ s.size ∧ i = .int .i64 k ∧ (∀ (j : Nat) (hj : j < l.length), 2 ≤ j → j < k → hexVal l[j].toNat < 16) ∧ wr = w) (fun i _ => s.size - (intOf i).toNat)
              case atStart => exact ⟨2, Nat.le_refl _, by omega, rfl, fun j hj h1 h2 => by omega, rfl⟩
              case round =>
                obtain ⟨k, hk2, hk, rfl, hgood, hwr⟩ := hrel
                have hwr := hwr.symm
                subst hwr
                have HGD : Hid (∀ (j : Nat) (hj : j < l.length), 2 ≤ j → j < k → hexVal l[j].toNat < 16) := hgood
                clear hgood
                by_cases hlt : k < s.size
                · have h2 : k < l.length := by omega
                  have hg := HG.out k hlt h2
                  have HH : Hid _ := HHX.out s[k] w
                  by_cases hx : hexVal s[k].toNat < 16
                  · have hr := (refHex_ok _ hx).2.1
                    have HGN : Hid (∀ (j : Nat) (hj : j < l.length), 2 ≤ j → j < k + 1 → hexVal l[j].toNat < 16) := by
                      intro j hj h1 h3
                      by_cases e : j = k
                      · subst e; rw [hg]; exact hx
                      · exact HGD.out j hj h1 (by omega)
                    generalize refHex s[k] = r at *
                    have hr2 : ¬ r < 0 := by omega
                    clear hg hx
                    go_wp2_with fail
                    refine Calls.mono HH.out ?_
                    rintro e W0 ⟨rfl, hw0⟩
                    have hw0 := hw0.symm
                    subst hw0
                    go_wp2
                    go_roundw
                    case rel => exact ⟨k + 1, by omega, by omega, by go_num, HGN.out, trivial⟩
                    case measure => (simp [intOf]; try omega)
                  · have hr := refHex_no _ hx
                    have HRN : Hid (allB 16 (l.drop 2) = false) := by
                      show _ = _
                      unfold allB
                      rw [Bool.eq_false_iff]
                      intro ha
                      rw [List.all_eq_true] at ha
                      have := ha l[k] (List.mem_of_getElem? (i := k - 2) (by rw [List.getElem?_drop, show 2 + (k - 2) = k by omega]; exact List.getElem?_eq_getElem h2))
                      rw [hg] at this
                      exact hx (by simpa using this)
                    rw [hr] at HH
                    clear hg hx hr
                    go_wp2_with fail
                    refine Calls.mono HH.out ?_
                    rintro e W0 ⟨rfl, hw0⟩
                    have hw0 := hw0.symm
                    subst hw0
                    go_wp2
                    go_ret
                    rw [HRF.out, HRN.out]
                    exact ⟨rfl, rfl⟩
                · have HRT : Hid (allB 16 (l.drop 2) = true) := by
                    show _ = _
                    unfold allB
                    rw [List.all_eq_true]
                    intro c hc
                    rw [List.mem_iff_getElem?] at hc
                    obtain ⟨j, hj⟩ := hc
                    rw [List.getElem?_drop] at hj
                    obtain ⟨h1, h2⟩ := List.getElem?_eq_some_iff.1 hj
                    have := HGD.out (2 + j) h1 (by omega) (by omega)
                    rw [h2] at this
                    simpa using this
                  go_wp2
                  go_ret
                  rw [HRF.out, HRT.out]
                  exact ⟨rfl, rfl⟩
end Go.Proofs
