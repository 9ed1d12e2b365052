/-
  What Again of package moorkeep answers.
-/
import Derived.Test.YtkcnageeamappaaGreatDoorJKAgain
namespace Go.Proofs
open Go.RowKit Go.Moor

theorem parseRes_form (o : Except Int Bs) : ∃ (x : ByteArray) (n : Int), ParseRes o = .returned (.tuple #[.string x, .int .i64 n]) := by
  cases o with
  | error n => exact ⟨_, n, rfl⟩
  | ok s => exact ⟨_, 0, rfl⟩

set_option maxHeartbeats 16000000 in
set_option maxRecDepth 8000 in
theorem Tryz.Again_told (t b o : Bs) (a : Adr) (w : World) (hb : b.length ≤ maxLen) (ht : t.length ≤ maxLen) (henv : Tryz.Env2 w) (hp : parse hostTell t b = .ok (tellAddr a)) (hg : Moor.Good hostTell a) (hl : (tellAddr a).length ≤ 2000) :
    Calls Tryz.prog 7 #[.string ⟨t.toArray⟩, .string ⟨b.toArray⟩, .string ⟨o.toArray⟩] w fun e w' => e = .returned (.bool true) ∧ Below w.heap.size w w' := by
  have HW : Hid (Calls Tryz.prog 19 #[] w fun e w' => e = .returned (.bool true) ∧ Below w.heap.size w w') := Tryz.works_any w henv
  have HPA : Hid (∀ (x y : Bs) w1, x.length ≤ maxLen → y.length ≤ maxLen → Below w.heap.size w w1 → Calls Tryz.prog 20 #[.string ⟨x.toArray⟩, .string ⟨y.toArray⟩] w1 fun e w' => e = ParseRes (parse hostTell x y) ∧ Below w.heap.size w w') := by
    intro x y w1 hx hy h1
    refine (Tryz.Parse_any x y w1 hx hy (henv.below h1)).mono ?_
    rintro e w' ⟨rfl, hb⟩
    exact ⟨rfl, h1.trans (hb.mono h1.size)⟩
  have HP0 : Hid (∀ w1, Below w.heap.size w w1 → Calls Tryz.prog 20 #[.string ⟨t.toArray⟩, .string ⟨b.toArray⟩] w1 fun e w' => e = .returned (.tuple #[.string ⟨(tellAddr a).toArray⟩, .int .i64 0]) ∧ Below w.heap.size w w') := by
    intro w1 h1
    have := HPA.out t b w1 ht hb h1
    rw [hp] at this
    exact this
  have HP1 : Hid (∀ w1, Below w.heap.size w w1 → Calls Tryz.prog 20 #[.string ⟨(tellAddr a).toArray⟩, .string ⟨#[]⟩] w1 fun e w' => e = .returned (.tuple #[.string ⟨(tellAddr a).toArray⟩, .int .i64 0]) ∧ Below w.heap.size w w') := by
    intro w1 h1
    have := HPA.out (tellAddr a) [] w1 (by unfold maxLen; omega) (by simp) h1
    rw [again_one hg hl] at this
    exact this
  have HSH : Hid (∀ w1, Calls Tryz.prog 21 #[.string ⟨o.toArray⟩, .int .i64 300] w1 fun e w' => e = .returned (.string ⟨(o.take 300).toArray⟩) ∧ w' = w1) := fun w1 => Tryz.short_any o 300 w1 (by omega)
  have HP2 : Hid (∀ w1, Below w.heap.size w w1 → Calls Tryz.prog 20 #[.string ⟨(tellAddr a).toArray⟩, .string ⟨(o.take 300).toArray⟩] w1 fun e w' => (e = .returned (.tuple #[.string ⟨(tellAddr a).toArray⟩, .int .i64 0]) ∨ e = .returned (.tuple #[.string ⟨#[]⟩, .int .i64 2])) ∧ Below w.heap.size w w') := by
    intro w1 h1
    have hle : (o.take 300).length ≤ 300 := by rw [List.length_take]; omega
    have h2 := HPA.out (tellAddr a) (o.take 300) w1 (by unfold maxLen; omega) (by unfold maxLen; omega) h1
    refine h2.mono ?_
    rintro e w' ⟨rfl, hb'⟩
    refine ⟨?_, hb'⟩
    rcases again_two hg hl (o.take 300) (by omega) with h | h
    · left; rw [h]; rfl
    · right; rw [h]; rfl
  have HSH2 : Hid (∀ w1, Calls Tryz.prog 21 #[.string ⟨(tellAddr a).toArray⟩, .int .i64 1996] w1 fun e w' => e = .returned (.string ⟨((tellAddr a).take 1996).toArray⟩) ∧ w' = w1) := fun w1 => Tryz.short_any (tellAddr a) 1996 w1 (by omega)
  have HP3 : Hid (∀ w1, Below w.heap.size w w1 → Calls Tryz.prog 20 #[.string (⟨#[32, 9]⟩ ++ ⟨((tellAddr a).take 1996).toArray⟩ ++ ⟨#[10, 32]⟩), .string ⟨#[]⟩] w1 fun e w' => (∃ (x : ByteArray) (n : Int), e = .returned (.tuple #[.string x, .int .i64 n]) ∧ ((tellAddr a).length ≤ 1996 → x = ⟨(tellAddr a).toArray⟩ ∧ n = 0)) ∧ Below w.heap.size w w') := by
    intro w1 h1
    have hle : ((tellAddr a).take 1996).length ≤ 1996 := by rw [List.length_take]; omega
    have h2 := HPA.out ([32, 9] ++ (tellAddr a).take 1996 ++ [10, 32]) [] w1 (by unfold maxLen; simp only [List.length_append, List.length_cons, List.length_nil]; omega) (by simp) h1
    simp only [← app_mk] at h2
    refine Calls.mono h2 ?_
    rintro e w' ⟨rfl, hb'⟩
    refine ⟨?_, hb'⟩
    by_cases h : (tellAddr a).length ≤ 1996
    · refine ⟨_, 0, ?_, fun _ => ⟨rfl, rfl⟩⟩
      rw [List.take_of_length_le h, again_three hg h]
      rfl
    · obtain ⟨x, n, hx⟩ := parseRes_form (parse hostTell ([32, 9] ++ (tellAddr a).take 1996 ++ [10, 32]) [])
      exact ⟨x, n, hx, fun h2 => absurd h2 h⟩
  have HSP : Hid (∀ w1, Below w.heap.size w w1 → Calls Tryz.prog 22 #[.string ⟨(tellAddr a).toArray⟩] w1 fun e w' => e = .returned (.tuple #[.agg (partCells a), .int .i64 0]) ∧ Below w.heap.size w w') := by
    intro w1 h1
    have hal : alone (tellAddr a) = .ok a := by
      unfold alone
      rw [if_neg (by omega)]
      exact read_good hostTell hostLaws a hg none
    refine (Tryz.Split_ok (tellAddr a) a w1 hal (by unfold maxLen; omega) (henv.below h1)).mono ?_
    rintro e w' ⟨rfl, hb⟩
    exact ⟨rfl, h1.trans (hb.mono h1.size)⟩
  have zt : (⟨((tellAddr a).take 1996).toArray⟩ : ByteArray).size ≤ 1996 := by rw [size_mk, List.length_take]; omega
  have zs : (⟨(tellAddr a).toArray⟩ : ByteArray).size = (tellAddr a).length := size_mk _
  have z1 : (⟨#[32, 9]⟩ : ByteArray).size = 2 := rfl
  have z2 : (⟨#[10, 32]⟩ : ByteArray).size = 2 := rfl
  obtain ⟨sb, hsb⟩ : ∃ sb : ByteArray, sb = ⟨(tellAddr a).toArray⟩ := ⟨_, rfl⟩
  have HSB : Hid (sb = ⟨(tellAddr a).toArray⟩) := hsb
  rw [← hsb] at HP0 HP1 HP2 HSH2 HP3 HSP zs
  have HZ : Hid (sb.size = (tellAddr a).length) := zs
  have hs2 : (sb.size : Int) ≤ 2000 := by omega
  generalize (⟨((tellAddr a).take 1996).toArray⟩ : ByteArray) = s9 at *
  generalize (⟨(o.take 300).toArray⟩ : ByteArray) = o3 at *
  generalize (⟨t.toArray⟩ : ByteArray) = tb at *
  generalize (⟨b.toArray⟩ : ByteArray) = bb at *
  generalize (⟨o.toArray⟩ : ByteArray) = ob at *
  have g0 : ∀ W : World, (Op.stringOp .add ⟨#[32, 9]⟩ s9).run Tryz.prog W = .ok (.string (⟨#[32, 9]⟩ ++ s9)) W := fun W => run_string_add_sum W _ _ (by omega)
  have g1 : ∀ W : World, (Op.stringOp .add (⟨#[32, 9]⟩ ++ s9) ⟨#[10, 32]⟩).run Tryz.prog W = .ok (.string (⟨#[32, 9]⟩ ++ s9 ++ ⟨#[10, 32]⟩)) W := fun W => run_string_add_sum W _ _ (by simp only [ByteArray.size_append]; omega)
  have HSM : Hid (Small 1000000 1000000 a) := alone_small (tellAddr a) a (by
    unfold alone
    rw [if_neg (by omega)]
    exact read_good hostTell hostLaws a hg none)
  have HWL : Hid ((tellWay a.way).length ≤ 2000) := by
    have : (tellWay a.way).length ≤ (tellAddr a).length := by
      unfold tellAddr
      simp only [List.length_append, List.length_cons]
      omega
    exact Nat.le_trans this hl
  have HPT : Hid (a.auth.port = -1 ∨ (0 ≤ a.auth.port ∧ a.auth.port ≤ 65535)) := by
    rcases hg.port with h | h
    · exact Or.inl h
    · exact Or.inr ⟨h.1, h.2.1⟩
  have HGA : Hid (guardB a = if a.auth.has = false ∧ twoAhead (tellWay a.way) = true then [47, 46] else []) := guard_ahead hg
  have HBY : Hid (∀ c ∈ tellAddr a, 33 ≤ c.toNat ∧ c.toNat ≤ 126) := tell_bytes hostTell hostLaws a hg
  clear HPA hb ht henv hp hg hl zt zs z1 z2 hsb
  go_enter Tryz.func7, Tryz.ntmps7
  go_wp2_with fail
  refine HW.out.mono ?_
  rintro e w1 ⟨rfl, b1⟩
  go_wp2_with fail
  refine Calls.mono (HP0.out w1 b1) ?_
  rintro e w2 ⟨rfl, b2⟩
  go_wp2_with fail
  refine Calls.mono (HP1.out w2 b2) ?_
  rintro e w3 ⟨rfl, b3⟩
  have HB3 : Hid (Below w.heap.size w w3) := b3
  clear b1 b2 b3
  go_upto_region 8 with fail
  go_cut [12, 13] (fun x12 x13 wx => ((x12 = .string sb ∧ x13 = .int .i64 0) ∨ (x12 = .string ⟨#[]⟩ ∧ x13 = .int .i64 2)) ∧ Below w.heap.size w wx)
  case first =>
    as_aux_lemma =>
      go_wp2_with fail
      refine Calls.mono (HSH.out w3) ?_
      rintro e W0 ⟨rfl, hw0⟩
      have hw0 := hw0.symm
      subst hw0
      go_wp2_with fail
      refine Calls.mono (HP2.out w3 HB3.out) ?_
      rintro e w4 ⟨he, b4⟩
      rcases he with rfl | rfl
      · go_wp2_with fail
        go_meet
        exact ⟨Or.inl ⟨rfl, rfl⟩, b4⟩
      · go_wp2_with fail
        go_meet
        exact ⟨Or.inr ⟨rfl, rfl⟩, b4⟩
  case rest =>
  obtain ⟨h12, bc⟩ := hcut
  have H12 : Hid _ := h12
  have HBC : Hid (Below w.heap.size w wc) := bc
  clear h12 bc HP2 HSH
  go_upto_region 9 with fail
  go_cut [14, 15] (fun x14 x15 wx => (∃ (x : ByteArray) (n : Int), x14 = .string x ∧ x15 = .int .i64 n ∧ ((tellAddr a).length ≤ 1996 → x = sb ∧ n = 0)) ∧ Below w.heap.size w wx)
  case first =>
    as_aux_lemma =>
      go_wp2_with fail
      refine Calls.mono (HSH2.out wc) ?_
      rintro e W0 ⟨rfl, hw0⟩
      have hw0 := hw0.symm
      subst hw0
      go_wp2_with fail
      refine Calls.mono (HP3.out wc HBC.out) ?_
      rintro e w5 ⟨⟨x, n, rfl, hx⟩, b5⟩
      go_wp2_with fail
      go_meet
      exact ⟨⟨x, n, rfl, rfl, hx⟩, b5⟩
  case rest =>
  obtain ⟨h14, bd⟩ := hcut
  have H14 : Hid _ := h14
  have HBD : Hid (Below w.heap.size w wc) := bd
  clear h14 bd HP3 HSH2 g0 g1
  go_upto_region 10 with fail
  go_cut [91] (fun x91 wx => x91 = .bool false ∧ wx = wc)
  case first =>
    as_aux_lemma =>
      obtain ⟨x, n, rfl, rfl, hx⟩ := H14.out
      by_cases hle : (sb.size : Int) ≤ 1996
      · obtain ⟨rfl, rfl⟩ := hx (by have := HZ.out; omega)
        rcases H12.out with ⟨rfl, rfl⟩ | ⟨rfl, rfl⟩
        · clear H12 H14 hx
          go_wp2_with fail
          go_meet
          exact ⟨rfl, rfl⟩
        · clear H12 H14 hx
          go_wp2_with fail
          go_meet
          exact ⟨rfl, rfl⟩
      · clear hx
        rcases H12.out with ⟨rfl, rfl⟩ | ⟨rfl, rfl⟩
        · clear H12 H14
          go_wp2_with fail
          go_meet
          exact ⟨rfl, rfl⟩
        · clear H12 H14
          go_wp2_with fail
          go_meet
          exact ⟨rfl, rfl⟩
  case rest =>
  obtain ⟨rfl, rfl⟩ := hcut
  clear H12 H14
  go_wp2_with fail
  refine Calls.mono (HSP.out wc HBD.out) ?_
  rintro e w6 ⟨rfl, b6⟩
  have HB6 : Hid (Below w.heap.size w w6) := b6
  obtain ⟨V, hV⟩ : ∃ V, V = (w6.alloc (.cells zeroParts 40)).setRow w6.heap.size (partCells a) := ⟨_, rfl⟩
  have HN : Hid ((w6.alloc (.cells zeroParts 40)).heap[w6.heap.size]? = some (.cells zeroParts 40 (0, 0))) := alloc_here w6 _ _
  have hVc : V.heap[w6.heap.size]? = some (.cells (partCells a) 40 (0, 0)) := by
    rw [hV]
    exact setRow_here HN.out _
  have hVB : Below w6.heap.size w6 V := by
    rw [hV]
    exact below_setRow ((Below.refl _ _).alloc (Nat.le_refl _) _) (Nat.le_refl _) _
  have HVB : Hid (∀ w1, Below V.heap.size V w1 → Below w.heap.size w w1) := fun w1 h1 => (HB6.out.trans (hVB.mono HB6.out.size)).trans (h1.mono (Nat.le_trans HB6.out.size hVB.size))
  have HPZ : Hid ((Tryz.prog.info? 40).map (·.size) = some (partCells a).size) := Tryz.sizeParts
  have HPO : Hid ((partCells a).all (·.oneCell') = true) := partCells_one a
  have HPS : Hid (zeroParts.size = (partCells a).size) := (rfl : zeroParts.size = (partCells a).size)
  have HVE : Hid (V = (w6.alloc (.cells zeroParts 40)).setRow w6.heap.size (partCells a)) := hV
  have HVC : Hid (∀ w1, Below V.heap.size V w1 → w1.heap[w6.heap.size]? = some (.cells (partCells a) 40 (0, 0))) := fun w1 h1 => (h1.block _ (Array.getElem?_eq_some_iff.1 hVc).1).trans hVc
  clear b6 hV hVc hVB HSP
  go_upto_region 15 with (refine wpList_store_row rfl 40 _ _ rfl w6.heap.size (partCells a) rfl rfl 40 zeroParts HN.out HPZ.out HPS.out HPO.out ?_)
  have hve := HVE.out
  unfold zeroParts at hve
  rw [← hve]
  clear hve HVE HN HPZ HPO HPS
  obtain ⟨sc, hsc⟩ : ∃ sc : ByteArray, sc = ⟨(a.scheme).toArray⟩ := ⟨_, rfl⟩
  have HSC : Hid (sc = ⟨(a.scheme).toArray⟩) := hsc
  obtain ⟨us, hus⟩ : ∃ us : ByteArray, us = ⟨(a.auth.user).toArray⟩ := ⟨_, rfl⟩
  have HUS : Hid (us = ⟨(a.auth.user).toArray⟩) := hus
  obtain ⟨pw, hpw⟩ : ∃ pw : ByteArray, pw = ⟨(a.auth.pass).toArray⟩ := ⟨_, rfl⟩
  have HPWD : Hid (pw = ⟨(a.auth.pass).toArray⟩) := hpw
  obtain ⟨ho2, hho2⟩ : ∃ ho2 : ByteArray, ho2 = ⟨(a.auth.host).toArray⟩ := ⟨_, rfl⟩
  have HHO : Hid (ho2 = ⟨(a.auth.host).toArray⟩) := hho2
  obtain ⟨pt, hpt⟩ : ∃ pt : ByteArray, pt = ⟨(tellWay a.way).toArray⟩ := ⟨_, rfl⟩
  have HPTH : Hid (pt = ⟨(tellWay a.way).toArray⟩) := hpt
  obtain ⟨qu, hqu⟩ : ∃ qu : ByteArray, qu = ⟨(a.query.getD []).toArray⟩ := ⟨_, rfl⟩
  have HQU : Hid (qu = ⟨(a.query.getD []).toArray⟩) := hqu
  obtain ⟨fr, hfr⟩ : ∃ fr : ByteArray, fr = ⟨(a.frag.getD []).toArray⟩ := ⟨_, rfl⟩
  have HFR : Hid (fr = ⟨(a.frag.getD []).toArray⟩) := hfr
  obtain ⟨po, hpo⟩ : ∃ po : Int, po = a.auth.port := ⟨_, rfl⟩
  have HPOE : Hid (po = a.auth.port) := hpo
  have HD : Hid (∀ w1, Below V.heap.size V w1 → w1.cell? ⟨w6.heap.size, 0, none⟩ = some (.string sc) ∧ w1.cell? ⟨w6.heap.size, 1, none⟩ = some (.string us) ∧ w1.cell? ⟨w6.heap.size, 2, none⟩ = some (.string pw) ∧ w1.cell? ⟨w6.heap.size, 3, none⟩ = some (.bool a.auth.has) ∧ w1.cell? ⟨w6.heap.size, 4, none⟩ = some (.string ho2) ∧ w1.cell? ⟨w6.heap.size, 5, none⟩ = some (.int .i64 po) ∧ w1.cell? ⟨w6.heap.size, 6, none⟩ = some (.bool a.way.opaq) ∧ w1.cell? ⟨w6.heap.size, 7, none⟩ = some (.string pt) ∧ w1.cell? ⟨w6.heap.size, 8, none⟩ = some (.bool a.query.isSome) ∧ w1.cell? ⟨w6.heap.size, 9, none⟩ = some (.string qu) ∧ w1.cell? ⟨w6.heap.size, 10, none⟩ = some (.bool a.frag.isSome) ∧ w1.cell? ⟨w6.heap.size, 11, none⟩ = some (.string fr)) := by
    intro w1 h1
    have k := HVC.out w1 h1
    rw [hsc, hus, hpw, hho2, hpt, hqu, hfr, hpo]
    exact ⟨cell_heap k 0, cell_heap k 1, cell_heap k 2, cell_heap k 3, cell_heap k 4, cell_heap k 5, cell_heap k 6, cell_heap k 7, cell_heap k 8, cell_heap k 9, cell_heap k 10, cell_heap k 11⟩
  obtain ⟨dg, hdg⟩ : ∃ dg : ByteArray, dg = ⟨(decB po).toArray⟩ := ⟨_, rfl⟩
  have HDG : Hid (∀ W1, 0 ≤ po → Below V.heap.size V W1 → Calls Tryz.prog 17 #[.int .i64 po, .int .i64 10] W1 fun e w' => e = .returned (.string dg) ∧ Below V.heap.size V w') := by
    intro W1 h0 h1
    have hp2 : po ≤ 65535 := by
      rcases HPT.out with h | h
      · rw [← hpo] at h; omega
      · rw [hpo]; exact h.2
    refine (Tryz.digits10_int po W1 h0 (by omega)).mono ?_
    rintro e w' ⟨rfl, nd, rfl⟩
    refine ⟨?_, Go.below_drewN h1 nd⟩
    rw [hdg, digs_dec 31 po.toNat (Nat.lt_of_lt_of_le (by omega : po.toNat < 4294967296) (pow_big 10 (by omega)))]
    rfl
  have z_sc : sc.size ≤ 1000000 := by rw [hsc, size_mk]; exact HSM.out.scheme
  have z_us : us.size ≤ 1000000 := by rw [hus, size_mk]; exact HSM.out.user
  have z_pw : pw.size ≤ 1000000 := by rw [hpw, size_mk]; exact HSM.out.pass
  have z_ho : ho2.size ≤ 1000000 := by rw [hho2, size_mk]; exact HSM.out.host
  have z_pt : pt.size ≤ 2000 := by rw [hpt, size_mk]; exact HWL.out
  have z_qu : qu.size ≤ 1000000 := by rw [hqu, size_mk]; exact HSM.out.query
  have z_fr : fr.size ≤ 1000000 := by rw [hfr, size_mk]; exact HSM.out.frag
  have z_dg : po = -1 ∨ dg.size ≤ 10 := by
    rcases HPT.out with h | h
    · left; rw [hpo]; exact h
    · right; rw [hdg, size_mk, hpo]; exact dec_len5 _ (by omega)
  obtain ⟨T1, hT1⟩ : ∃ T1 : ByteArray, T1 = ⟨(a.scheme ++ 58 :: tellAuth a.auth).toArray⟩ := ⟨_, rfl⟩
  have HT1 : Hid (T1 = ⟨(a.scheme ++ 58 :: tellAuth a.auth).toArray⟩) := hT1
  have z58 : (⟨#[58]⟩ : ByteArray).size = 1 := rfl
  have z64 : (⟨#[64]⟩ : ByteArray).size = 1 := rfl
  have z47 : (⟨#[47, 47]⟩ : ByteArray).size = 2 := rfl
  have HE0 : Hid (a.auth.has = true → a.auth.user = [] → a.auth.pass = [] → 0 ≤ po → (sc ++ ⟨#[58]⟩ ++ ⟨#[47, 47]⟩ ++ ho2 ++ ⟨#[58]⟩ ++ dg : ByteArray) = T1) := by
    intro h1 h2 h3 h4
    have h5 : a.auth.port ≠ -1 := by rw [← hpo]; omega
    rw [hT1, hsc, hho2, hdg, hpo]
    simp only [app_mk]
    simp [tellAuth, tellLogin, tellPlace, h1, h2, h3, h5]
  have HE1 : Hid (a.auth.has = true → a.auth.user = [] → a.auth.pass = [] → po = -1 → (sc ++ ⟨#[58]⟩ ++ ⟨#[47, 47]⟩ ++ ho2 : ByteArray) = T1) := by
    intro h1 h2 h3 h4
    have h5 : a.auth.port = -1 := by rw [← hpo]; omega
    rw [hT1, hsc, hho2]
    simp only [app_mk]
    simp [tellAuth, tellLogin, tellPlace, h1, h2, h3, h5]
  have HE2 : Hid (a.auth.has = true → a.auth.user = [] → a.auth.pass ≠ [] → 0 ≤ po → (sc ++ ⟨#[58]⟩ ++ ⟨#[47, 47]⟩ ++ us ++ ⟨#[58]⟩ ++ pw ++ ⟨#[64]⟩ ++ ho2 ++ ⟨#[58]⟩ ++ dg : ByteArray) = T1) := by
    intro h1 h2 h3 h4
    have h5 : a.auth.port ≠ -1 := by rw [← hpo]; omega
    rw [hT1, hsc, hus, hpw, hho2, hdg, hpo]
    simp only [app_mk]
    simp [tellAuth, tellLogin, tellPlace, h1, h2, h3, h5]
  have HE3 : Hid (a.auth.has = true → a.auth.user = [] → a.auth.pass ≠ [] → po = -1 → (sc ++ ⟨#[58]⟩ ++ ⟨#[47, 47]⟩ ++ us ++ ⟨#[58]⟩ ++ pw ++ ⟨#[64]⟩ ++ ho2 : ByteArray) = T1) := by
    intro h1 h2 h3 h4
    have h5 : a.auth.port = -1 := by rw [← hpo]; omega
    rw [hT1, hsc, hus, hpw, hho2]
    simp only [app_mk]
    simp [tellAuth, tellLogin, tellPlace, h1, h2, h3, h5]
  have HE4 : Hid (a.auth.has = true → a.auth.user ≠ [] → a.auth.pass = [] → 0 ≤ po → (sc ++ ⟨#[58]⟩ ++ ⟨#[47, 47]⟩ ++ us ++ ⟨#[64]⟩ ++ ho2 ++ ⟨#[58]⟩ ++ dg : ByteArray) = T1) := by
    intro h1 h2 h3 h4
    have h5 : a.auth.port ≠ -1 := by rw [← hpo]; omega
    rw [hT1, hsc, hus, hho2, hdg, hpo]
    simp only [app_mk]
    simp [tellAuth, tellLogin, tellPlace, h1, h2, h3, h5]
  have HE5 : Hid (a.auth.has = true → a.auth.user ≠ [] → a.auth.pass = [] → po = -1 → (sc ++ ⟨#[58]⟩ ++ ⟨#[47, 47]⟩ ++ us ++ ⟨#[64]⟩ ++ ho2 : ByteArray) = T1) := by
    intro h1 h2 h3 h4
    have h5 : a.auth.port = -1 := by rw [← hpo]; omega
    rw [hT1, hsc, hus, hho2]
    simp only [app_mk]
    simp [tellAuth, tellLogin, tellPlace, h1, h2, h3, h5]
  have HE6 : Hid (a.auth.has = true → a.auth.user ≠ [] → a.auth.pass ≠ [] → 0 ≤ po → (sc ++ ⟨#[58]⟩ ++ ⟨#[47, 47]⟩ ++ us ++ ⟨#[58]⟩ ++ pw ++ ⟨#[64]⟩ ++ ho2 ++ ⟨#[58]⟩ ++ dg : ByteArray) = T1) := by
    intro h1 _ h3 h4
    have h5 : a.auth.port ≠ -1 := by rw [← hpo]; omega
    rw [hT1, hsc, hus, hpw, hho2, hdg, hpo]
    simp only [app_mk]
    simp [tellAuth, tellLogin, tellPlace, h1, h3, h5]
  have HE7 : Hid (a.auth.has = true → a.auth.user ≠ [] → a.auth.pass ≠ [] → po = -1 → (sc ++ ⟨#[58]⟩ ++ ⟨#[47, 47]⟩ ++ us ++ ⟨#[58]⟩ ++ pw ++ ⟨#[64]⟩ ++ ho2 : ByteArray) = T1) := by
    intro h1 _ h3 h4
    have h5 : a.auth.port = -1 := by rw [← hpo]; omega
    rw [hT1, hsc, hus, hpw, hho2]
    simp only [app_mk]
    simp [tellAuth, tellLogin, tellPlace, h1, h3, h5]
  have HE9 : Hid (a.auth.has = false → (sc ++ ⟨#[58]⟩ : ByteArray) = T1) := by
    intro h1
    rw [hT1, hsc]
    simp only [app_mk]
    simp [tellAuth, h1]
  obtain ⟨d0, d1, d2, d3, d4, d5, d6, d7, d8, d9, d10, d11⟩ := HD.out V (Below.refl _ _)
  have g0 : ∀ W : World, (Op.stringOp .add sc ⟨#[58]⟩).run Tryz.prog W = .ok (.string (sc ++ ⟨#[58]⟩)) W := fun W => run_string_add_sum W _ _ (by omega)
  have HUE : Hid (us = ⟨(a.auth.user).toArray⟩) := hus
  clear hsc hus hpw hho2 hpt hqu hfr hpo hdg hT1 HVC HB3 HBC HBD HSM HWL
  go_upto_if 103 with fail
  go_cut [18] (fun x18 wx => x18 = .string T1 ∧ Below V.heap.size V wx)
  case first =>
    as_aux_lemma =>
      by_cases hh : a.auth.has = true
      · rw [hh] at d3 ⊢
        by_cases hu : a.auth.user = []
        · have hn1 : us.toList.isEmpty = true := by rw [HUE.out, hu]; exact empty_yes
          by_cases hp : a.auth.pass = []
          · have hn2 : pw.toList.isEmpty = true := by rw [HPWD.out, hp]; exact empty_yes
            rcases HPT.out with hport | hport
            · have hpm : po = -1 := by rw [HPOE.out]; exact hport
              have hpx := HE1.out hh hu hp hpm
              have HX : Hid (_ = T1) := hpx
              clear hpx
              subst hpm
              have g20 : ∀ W : World, (Op.stringOp .add (sc ++ ⟨#[58]⟩) ⟨#[47, 47]⟩).run Tryz.prog W = .ok (.string (sc ++ ⟨#[58]⟩ ++ ⟨#[47, 47]⟩)) W := fun W => run_string_add_sum W _ _ (by (try simp only [ByteArray.size_append]); omega)
              have g21 : ∀ W : World, (Op.stringOp .add (sc ++ ⟨#[58]⟩ ++ ⟨#[47, 47]⟩) ho2).run Tryz.prog W = .ok (.string (sc ++ ⟨#[58]⟩ ++ ⟨#[47, 47]⟩ ++ ho2)) W := fun W => run_string_add_sum W _ _ (by (try simp only [ByteArray.size_append]); omega)
              go_wp2_with fail
              go_meet
              exact ⟨congrArg Value.string HX.out, Below.refl _ _⟩
            · have hp0 : 0 ≤ po := by rw [HPOE.out]; exact hport.1
              have hzd : dg.size ≤ 10 := by
                rcases z_dg with h | h
                · omega
                · exact h
              have HX : Hid (_ = T1) := HE0.out hh hu hp hp0
              have g20 : ∀ W : World, (Op.stringOp .add (sc ++ ⟨#[58]⟩) ⟨#[47, 47]⟩).run Tryz.prog W = .ok (.string (sc ++ ⟨#[58]⟩ ++ ⟨#[47, 47]⟩)) W := fun W => run_string_add_sum W _ _ (by (try simp only [ByteArray.size_append]); omega)
              have g21 : ∀ W : World, (Op.stringOp .add (sc ++ ⟨#[58]⟩ ++ ⟨#[47, 47]⟩) ho2).run Tryz.prog W = .ok (.string (sc ++ ⟨#[58]⟩ ++ ⟨#[47, 47]⟩ ++ ho2)) W := fun W => run_string_add_sum W _ _ (by (try simp only [ByteArray.size_append]); omega)
              have g22 : ∀ W : World, (Op.stringOp .add (sc ++ ⟨#[58]⟩ ++ ⟨#[47, 47]⟩ ++ ho2) ⟨#[58]⟩).run Tryz.prog W = .ok (.string (sc ++ ⟨#[58]⟩ ++ ⟨#[47, 47]⟩ ++ ho2 ++ ⟨#[58]⟩)) W := fun W => run_string_add_sum W _ _ (by (try simp only [ByteArray.size_append]); omega)
              have g23 : ∀ W : World, (Op.stringOp .add (sc ++ ⟨#[58]⟩ ++ ⟨#[47, 47]⟩ ++ ho2 ++ ⟨#[58]⟩) dg).run Tryz.prog W = .ok (.string (sc ++ ⟨#[58]⟩ ++ ⟨#[47, 47]⟩ ++ ho2 ++ ⟨#[58]⟩ ++ dg)) W := fun W => run_string_add_sum W _ _ (by (try simp only [ByteArray.size_append]); omega)
              go_wp2_with fail
              refine Calls.mono (HDG.out _ hp0 (Below.refl _ _)) ?_
              rintro e v7 ⟨rfl, b7⟩
              go_wp2_with fail
              go_meet
              exact ⟨congrArg Value.string HX.out, b7⟩
          · have hn2 : pw.toList.isEmpty = false := by rw [HPWD.out]; exact empty_no _ hp
            rcases HPT.out with hport | hport
            · have hpm : po = -1 := by rw [HPOE.out]; exact hport
              have hpx := HE3.out hh hu hp hpm
              have HX : Hid (_ = T1) := hpx
              clear hpx
              subst hpm
              have g20 : ∀ W : World, (Op.stringOp .add (sc ++ ⟨#[58]⟩) ⟨#[47, 47]⟩).run Tryz.prog W = .ok (.string (sc ++ ⟨#[58]⟩ ++ ⟨#[47, 47]⟩)) W := fun W => run_string_add_sum W _ _ (by (try simp only [ByteArray.size_append]); omega)
              have g21 : ∀ W : World, (Op.stringOp .add (sc ++ ⟨#[58]⟩ ++ ⟨#[47, 47]⟩) us).run Tryz.prog W = .ok (.string (sc ++ ⟨#[58]⟩ ++ ⟨#[47, 47]⟩ ++ us)) W := fun W => run_string_add_sum W _ _ (by (try simp only [ByteArray.size_append]); omega)
              have g22 : ∀ W : World, (Op.stringOp .add (sc ++ ⟨#[58]⟩ ++ ⟨#[47, 47]⟩ ++ us) ⟨#[58]⟩).run Tryz.prog W = .ok (.string (sc ++ ⟨#[58]⟩ ++ ⟨#[47, 47]⟩ ++ us ++ ⟨#[58]⟩)) W := fun W => run_string_add_sum W _ _ (by (try simp only [ByteArray.size_append]); omega)
              have g23 : ∀ W : World, (Op.stringOp .add (sc ++ ⟨#[58]⟩ ++ ⟨#[47, 47]⟩ ++ us ++ ⟨#[58]⟩) pw).run Tryz.prog W = .ok (.string (sc ++ ⟨#[58]⟩ ++ ⟨#[47, 47]⟩ ++ us ++ ⟨#[58]⟩ ++ pw)) W := fun W => run_string_add_sum W _ _ (by (try simp only [ByteArray.size_append]); omega)
              have g24 : ∀ W : World, (Op.stringOp .add (sc ++ ⟨#[58]⟩ ++ ⟨#[47, 47]⟩ ++ us ++ ⟨#[58]⟩ ++ pw) ⟨#[64]⟩).run Tryz.prog W = .ok (.string (sc ++ ⟨#[58]⟩ ++ ⟨#[47, 47]⟩ ++ us ++ ⟨#[58]⟩ ++ pw ++ ⟨#[64]⟩)) W := fun W => run_string_add_sum W _ _ (by (try simp only [ByteArray.size_append]); omega)
              have g25 : ∀ W : World, (Op.stringOp .add (sc ++ ⟨#[58]⟩ ++ ⟨#[47, 47]⟩ ++ us ++ ⟨#[58]⟩ ++ pw ++ ⟨#[64]⟩) ho2).run Tryz.prog W = .ok (.string (sc ++ ⟨#[58]⟩ ++ ⟨#[47, 47]⟩ ++ us ++ ⟨#[58]⟩ ++ pw ++ ⟨#[64]⟩ ++ ho2)) W := fun W => run_string_add_sum W _ _ (by (try simp only [ByteArray.size_append]); omega)
              go_wp2_with fail
              go_meet
              exact ⟨congrArg Value.string HX.out, Below.refl _ _⟩
            · have hp0 : 0 ≤ po := by rw [HPOE.out]; exact hport.1
              have hzd : dg.size ≤ 10 := by
                rcases z_dg with h | h
                · omega
                · exact h
              have HX : Hid (_ = T1) := HE2.out hh hu hp hp0
              have g20 : ∀ W : World, (Op.stringOp .add (sc ++ ⟨#[58]⟩) ⟨#[47, 47]⟩).run Tryz.prog W = .ok (.string (sc ++ ⟨#[58]⟩ ++ ⟨#[47, 47]⟩)) W := fun W => run_string_add_sum W _ _ (by (try simp only [ByteArray.size_append]); omega)
              have g21 : ∀ W : World, (Op.stringOp .add (sc ++ ⟨#[58]⟩ ++ ⟨#[47, 47]⟩) us).run Tryz.prog W = .ok (.string (sc ++ ⟨#[58]⟩ ++ ⟨#[47, 47]⟩ ++ us)) W := fun W => run_string_add_sum W _ _ (by (try simp only [ByteArray.size_append]); omega)
              have g22 : ∀ W : World, (Op.stringOp .add (sc ++ ⟨#[58]⟩ ++ ⟨#[47, 47]⟩ ++ us) ⟨#[58]⟩).run Tryz.prog W = .ok (.string (sc ++ ⟨#[58]⟩ ++ ⟨#[47, 47]⟩ ++ us ++ ⟨#[58]⟩)) W := fun W => run_string_add_sum W _ _ (by (try simp only [ByteArray.size_append]); omega)
              have g23 : ∀ W : World, (Op.stringOp .add (sc ++ ⟨#[58]⟩ ++ ⟨#[47, 47]⟩ ++ us ++ ⟨#[58]⟩) pw).run Tryz.prog W = .ok (.string (sc ++ ⟨#[58]⟩ ++ ⟨#[47, 47]⟩ ++ us ++ ⟨#[58]⟩ ++ pw)) W := fun W => run_string_add_sum W _ _ (by (try simp only [ByteArray.size_append]); omega)
              have g24 : ∀ W : World, (Op.stringOp .add (sc ++ ⟨#[58]⟩ ++ ⟨#[47, 47]⟩ ++ us ++ ⟨#[58]⟩ ++ pw) ⟨#[64]⟩).run Tryz.prog W = .ok (.string (sc ++ ⟨#[58]⟩ ++ ⟨#[47, 47]⟩ ++ us ++ ⟨#[58]⟩ ++ pw ++ ⟨#[64]⟩)) W := fun W => run_string_add_sum W _ _ (by (try simp only [ByteArray.size_append]); omega)
              have g25 : ∀ W : World, (Op.stringOp .add (sc ++ ⟨#[58]⟩ ++ ⟨#[47, 47]⟩ ++ us ++ ⟨#[58]⟩ ++ pw ++ ⟨#[64]⟩) ho2).run Tryz.prog W = .ok (.string (sc ++ ⟨#[58]⟩ ++ ⟨#[47, 47]⟩ ++ us ++ ⟨#[58]⟩ ++ pw ++ ⟨#[64]⟩ ++ ho2)) W := fun W => run_string_add_sum W _ _ (by (try simp only [ByteArray.size_append]); omega)
              have g26 : ∀ W : World, (Op.stringOp .add (sc ++ ⟨#[58]⟩ ++ ⟨#[47, 47]⟩ ++ us ++ ⟨#[58]⟩ ++ pw ++ ⟨#[64]⟩ ++ ho2) ⟨#[58]⟩).run Tryz.prog W = .ok (.string (sc ++ ⟨#[58]⟩ ++ ⟨#[47, 47]⟩ ++ us ++ ⟨#[58]⟩ ++ pw ++ ⟨#[64]⟩ ++ ho2 ++ ⟨#[58]⟩)) W := fun W => run_string_add_sum W _ _ (by (try simp only [ByteArray.size_append]); omega)
              have g27 : ∀ W : World, (Op.stringOp .add (sc ++ ⟨#[58]⟩ ++ ⟨#[47, 47]⟩ ++ us ++ ⟨#[58]⟩ ++ pw ++ ⟨#[64]⟩ ++ ho2 ++ ⟨#[58]⟩) dg).run Tryz.prog W = .ok (.string (sc ++ ⟨#[58]⟩ ++ ⟨#[47, 47]⟩ ++ us ++ ⟨#[58]⟩ ++ pw ++ ⟨#[64]⟩ ++ ho2 ++ ⟨#[58]⟩ ++ dg)) W := fun W => run_string_add_sum W _ _ (by (try simp only [ByteArray.size_append]); omega)
              go_wp2_with fail
              refine Calls.mono (HDG.out _ hp0 (Below.refl _ _)) ?_
              rintro e v7 ⟨rfl, b7⟩
              go_wp2_with fail
              go_meet
              exact ⟨congrArg Value.string HX.out, b7⟩
        · have hn1 : us.toList.isEmpty = false := by rw [HUE.out]; exact empty_no _ hu
          by_cases hp : a.auth.pass = []
          · have hn2 : pw.toList.isEmpty = true := by rw [HPWD.out, hp]; exact empty_yes
            rcases HPT.out with hport | hport
            · have hpm : po = -1 := by rw [HPOE.out]; exact hport
              have hpx := HE5.out hh hu hp hpm
              have HX : Hid (_ = T1) := hpx
              clear hpx
              subst hpm
              have g20 : ∀ W : World, (Op.stringOp .add (sc ++ ⟨#[58]⟩) ⟨#[47, 47]⟩).run Tryz.prog W = .ok (.string (sc ++ ⟨#[58]⟩ ++ ⟨#[47, 47]⟩)) W := fun W => run_string_add_sum W _ _ (by (try simp only [ByteArray.size_append]); omega)
              have g21 : ∀ W : World, (Op.stringOp .add (sc ++ ⟨#[58]⟩ ++ ⟨#[47, 47]⟩) us).run Tryz.prog W = .ok (.string (sc ++ ⟨#[58]⟩ ++ ⟨#[47, 47]⟩ ++ us)) W := fun W => run_string_add_sum W _ _ (by (try simp only [ByteArray.size_append]); omega)
              have g22 : ∀ W : World, (Op.stringOp .add (sc ++ ⟨#[58]⟩ ++ ⟨#[47, 47]⟩ ++ us) ⟨#[64]⟩).run Tryz.prog W = .ok (.string (sc ++ ⟨#[58]⟩ ++ ⟨#[47, 47]⟩ ++ us ++ ⟨#[64]⟩)) W := fun W => run_string_add_sum W _ _ (by (try simp only [ByteArray.size_append]); omega)
              have g23 : ∀ W : World, (Op.stringOp .add (sc ++ ⟨#[58]⟩ ++ ⟨#[47, 47]⟩ ++ us ++ ⟨#[64]⟩) ho2).run Tryz.prog W = .ok (.string (sc ++ ⟨#[58]⟩ ++ ⟨#[47, 47]⟩ ++ us ++ ⟨#[64]⟩ ++ ho2)) W := fun W => run_string_add_sum W _ _ (by (try simp only [ByteArray.size_append]); omega)
              go_wp2_with fail
              go_meet
              exact ⟨congrArg Value.string HX.out, Below.refl _ _⟩
            · have hp0 : 0 ≤ po := by rw [HPOE.out]; exact hport.1
              have hzd : dg.size ≤ 10 := by
                rcases z_dg with h | h
                · omega
                · exact h
              have HX : Hid (_ = T1) := HE4.out hh hu hp hp0
              have g20 : ∀ W : World, (Op.stringOp .add (sc ++ ⟨#[58]⟩) ⟨#[47, 47]⟩).run Tryz.prog W = .ok (.string (sc ++ ⟨#[58]⟩ ++ ⟨#[47, 47]⟩)) W := fun W => run_string_add_sum W _ _ (by (try simp only [ByteArray.size_append]); omega)
              have g21 : ∀ W : World, (Op.stringOp .add (sc ++ ⟨#[58]⟩ ++ ⟨#[47, 47]⟩) us).run Tryz.prog W = .ok (.string (sc ++ ⟨#[58]⟩ ++ ⟨#[47, 47]⟩ ++ us)) W := fun W => run_string_add_sum W _ _ (by (try simp only [ByteArray.size_append]); omega)
              have g22 : ∀ W : World, (Op.stringOp .add (sc ++ ⟨#[58]⟩ ++ ⟨#[47, 47]⟩ ++ us) ⟨#[64]⟩).run Tryz.prog W = .ok (.string (sc ++ ⟨#[58]⟩ ++ ⟨#[47, 47]⟩ ++ us ++ ⟨#[64]⟩)) W := fun W => run_string_add_sum W _ _ (by (try simp only [ByteArray.size_append]); omega)
              have g23 : ∀ W : World, (Op.stringOp .add (sc ++ ⟨#[58]⟩ ++ ⟨#[47, 47]⟩ ++ us ++ ⟨#[64]⟩) ho2).run Tryz.prog W = .ok (.string (sc ++ ⟨#[58]⟩ ++ ⟨#[47, 47]⟩ ++ us ++ ⟨#[64]⟩ ++ ho2)) W := fun W => run_string_add_sum W _ _ (by (try simp only [ByteArray.size_append]); omega)
              have g24 : ∀ W : World, (Op.stringOp .add (sc ++ ⟨#[58]⟩ ++ ⟨#[47, 47]⟩ ++ us ++ ⟨#[64]⟩ ++ ho2) ⟨#[58]⟩).run Tryz.prog W = .ok (.string (sc ++ ⟨#[58]⟩ ++ ⟨#[47, 47]⟩ ++ us ++ ⟨#[64]⟩ ++ ho2 ++ ⟨#[58]⟩)) W := fun W => run_string_add_sum W _ _ (by (try simp only [ByteArray.size_append]); omega)
              have g25 : ∀ W : World, (Op.stringOp .add (sc ++ ⟨#[58]⟩ ++ ⟨#[47, 47]⟩ ++ us ++ ⟨#[64]⟩ ++ ho2 ++ ⟨#[58]⟩) dg).run Tryz.prog W = .ok (.string (sc ++ ⟨#[58]⟩ ++ ⟨#[47, 47]⟩ ++ us ++ ⟨#[64]⟩ ++ ho2 ++ ⟨#[58]⟩ ++ dg)) W := fun W => run_string_add_sum W _ _ (by (try simp only [ByteArray.size_append]); omega)
              go_wp2_with fail
              refine Calls.mono (HDG.out _ hp0 (Below.refl _ _)) ?_
              rintro e v7 ⟨rfl, b7⟩
              go_wp2_with fail
              go_meet
              exact ⟨congrArg Value.string HX.out, b7⟩
          · have hn2 : pw.toList.isEmpty = false := by rw [HPWD.out]; exact empty_no _ hp
            rcases HPT.out with hport | hport
            · have hpm : po = -1 := by rw [HPOE.out]; exact hport
              have hpx := HE7.out hh hu hp hpm
              have HX : Hid (_ = T1) := hpx
              clear hpx
              subst hpm
              have g20 : ∀ W : World, (Op.stringOp .add (sc ++ ⟨#[58]⟩) ⟨#[47, 47]⟩).run Tryz.prog W = .ok (.string (sc ++ ⟨#[58]⟩ ++ ⟨#[47, 47]⟩)) W := fun W => run_string_add_sum W _ _ (by (try simp only [ByteArray.size_append]); omega)
              have g21 : ∀ W : World, (Op.stringOp .add (sc ++ ⟨#[58]⟩ ++ ⟨#[47, 47]⟩) us).run Tryz.prog W = .ok (.string (sc ++ ⟨#[58]⟩ ++ ⟨#[47, 47]⟩ ++ us)) W := fun W => run_string_add_sum W _ _ (by (try simp only [ByteArray.size_append]); omega)
              have g22 : ∀ W : World, (Op.stringOp .add (sc ++ ⟨#[58]⟩ ++ ⟨#[47, 47]⟩ ++ us) ⟨#[58]⟩).run Tryz.prog W = .ok (.string (sc ++ ⟨#[58]⟩ ++ ⟨#[47, 47]⟩ ++ us ++ ⟨#[58]⟩)) W := fun W => run_string_add_sum W _ _ (by (try simp only [ByteArray.size_append]); omega)
              have g23 : ∀ W : World, (Op.stringOp .add (sc ++ ⟨#[58]⟩ ++ ⟨#[47, 47]⟩ ++ us ++ ⟨#[58]⟩) pw).run Tryz.prog W = .ok (.string (sc ++ ⟨#[58]⟩ ++ ⟨#[47, 47]⟩ ++ us ++ ⟨#[58]⟩ ++ pw)) W := fun W => run_string_add_sum W _ _ (by (try simp only [ByteArray.size_append]); omega)
              have g24 : ∀ W : World, (Op.stringOp .add (sc ++ ⟨#[58]⟩ ++ ⟨#[47, 47]⟩ ++ us ++ ⟨#[58]⟩ ++ pw) ⟨#[64]⟩).run Tryz.prog W = .ok (.string (sc ++ ⟨#[58]⟩ ++ ⟨#[47, 47]⟩ ++ us ++ ⟨#[58]⟩ ++ pw ++ ⟨#[64]⟩)) W := fun W => run_string_add_sum W _ _ (by (try simp only [ByteArray.size_append]); omega)
              have g25 : ∀ W : World, (Op.stringOp .add (sc ++ ⟨#[58]⟩ ++ ⟨#[47, 47]⟩ ++ us ++ ⟨#[58]⟩ ++ pw ++ ⟨#[64]⟩) ho2).run Tryz.prog W = .ok (.string (sc ++ ⟨#[58]⟩ ++ ⟨#[47, 47]⟩ ++ us ++ ⟨#[58]⟩ ++ pw ++ ⟨#[64]⟩ ++ ho2)) W := fun W => run_string_add_sum W _ _ (by (try simp only [ByteArray.size_append]); omega)
              go_wp2_with fail
              go_meet
              exact ⟨congrArg Value.string HX.out, Below.refl _ _⟩
            · have hp0 : 0 ≤ po := by rw [HPOE.out]; exact hport.1
              have hzd : dg.size ≤ 10 := by
                rcases z_dg with h | h
                · omega
                · exact h
              have HX : Hid (_ = T1) := HE6.out hh hu hp hp0
              have g20 : ∀ W : World, (Op.stringOp .add (sc ++ ⟨#[58]⟩) ⟨#[47, 47]⟩).run Tryz.prog W = .ok (.string (sc ++ ⟨#[58]⟩ ++ ⟨#[47, 47]⟩)) W := fun W => run_string_add_sum W _ _ (by (try simp only [ByteArray.size_append]); omega)
              have g21 : ∀ W : World, (Op.stringOp .add (sc ++ ⟨#[58]⟩ ++ ⟨#[47, 47]⟩) us).run Tryz.prog W = .ok (.string (sc ++ ⟨#[58]⟩ ++ ⟨#[47, 47]⟩ ++ us)) W := fun W => run_string_add_sum W _ _ (by (try simp only [ByteArray.size_append]); omega)
              have g22 : ∀ W : World, (Op.stringOp .add (sc ++ ⟨#[58]⟩ ++ ⟨#[47, 47]⟩ ++ us) ⟨#[58]⟩).run Tryz.prog W = .ok (.string (sc ++ ⟨#[58]⟩ ++ ⟨#[47, 47]⟩ ++ us ++ ⟨#[58]⟩)) W := fun W => run_string_add_sum W _ _ (by (try simp only [ByteArray.size_append]); omega)
              have g23 : ∀ W : World, (Op.stringOp .add (sc ++ ⟨#[58]⟩ ++ ⟨#[47, 47]⟩ ++ us ++ ⟨#[58]⟩) pw).run Tryz.prog W = .ok (.string (sc ++ ⟨#[58]⟩ ++ ⟨#[47, 47]⟩ ++ us ++ ⟨#[58]⟩ ++ pw)) W := fun W => run_string_add_sum W _ _ (by (try simp only [ByteArray.size_append]); omega)
              have g24 : ∀ W : World, (Op.stringOp .add (sc ++ ⟨#[58]⟩ ++ ⟨#[47, 47]⟩ ++ us ++ ⟨#[58]⟩ ++ pw) ⟨#[64]⟩).run Tryz.prog W = .ok (.string (sc ++ ⟨#[58]⟩ ++ ⟨#[47, 47]⟩ ++ us ++ ⟨#[58]⟩ ++ pw ++ ⟨#[64]⟩)) W := fun W => run_string_add_sum W _ _ (by (try simp only [ByteArray.size_append]); omega)
              have g25 : ∀ W : World, (Op.stringOp .add (sc ++ ⟨#[58]⟩ ++ ⟨#[47, 47]⟩ ++ us ++ ⟨#[58]⟩ ++ pw ++ ⟨#[64]⟩) ho2).run Tryz.prog W = .ok (.string (sc ++ ⟨#[58]⟩ ++ ⟨#[47, 47]⟩ ++ us ++ ⟨#[58]⟩ ++ pw ++ ⟨#[64]⟩ ++ ho2)) W := fun W => run_string_add_sum W _ _ (by (try simp only [ByteArray.size_append]); omega)
              have g26 : ∀ W : World, (Op.stringOp .add (sc ++ ⟨#[58]⟩ ++ ⟨#[47, 47]⟩ ++ us ++ ⟨#[58]⟩ ++ pw ++ ⟨#[64]⟩ ++ ho2) ⟨#[58]⟩).run Tryz.prog W = .ok (.string (sc ++ ⟨#[58]⟩ ++ ⟨#[47, 47]⟩ ++ us ++ ⟨#[58]⟩ ++ pw ++ ⟨#[64]⟩ ++ ho2 ++ ⟨#[58]⟩)) W := fun W => run_string_add_sum W _ _ (by (try simp only [ByteArray.size_append]); omega)
              have g27 : ∀ W : World, (Op.stringOp .add (sc ++ ⟨#[58]⟩ ++ ⟨#[47, 47]⟩ ++ us ++ ⟨#[58]⟩ ++ pw ++ ⟨#[64]⟩ ++ ho2 ++ ⟨#[58]⟩) dg).run Tryz.prog W = .ok (.string (sc ++ ⟨#[58]⟩ ++ ⟨#[47, 47]⟩ ++ us ++ ⟨#[58]⟩ ++ pw ++ ⟨#[64]⟩ ++ ho2 ++ ⟨#[58]⟩ ++ dg)) W := fun W => run_string_add_sum W _ _ (by (try simp only [ByteArray.size_append]); omega)
              go_wp2_with fail
              refine Calls.mono (HDG.out _ hp0 (Below.refl _ _)) ?_
              rintro e v7 ⟨rfl, b7⟩
              go_wp2_with fail
              go_meet
              exact ⟨congrArg Value.string HX.out, b7⟩
      · have hh2 : a.auth.has = false := by simpa using hh
        rw [hh2] at d3 ⊢
        go_wp2_with fail
        go_meet
        exact ⟨congrArg Value.string (HE9.out hh2), Below.refl _ _⟩
  case rest =>
  obtain ⟨rfl, bc1⟩ := hcut
  have HB7 : Hid (Below V.heap.size V wc) := bc1
  obtain ⟨d0, d1, d2, d3, d4, d5, d6, d7, d8, d9, d10, d11⟩ := HD.out wc bc1
  clear bc1 g0 HDG HE0 HE1 HE2 HE3 HE4 HE5 HE6 HE7 HE9
  obtain ⟨T2, hT2⟩ : ∃ T2 : ByteArray, T2 = ⟨(a.scheme ++ 58 :: (tellAuth a.auth ++ guardB a)).toArray⟩ := ⟨_, rfl⟩
  have HT2 : Hid (T2 = ⟨(a.scheme ++ 58 :: (tellAuth a.auth ++ guardB a)).toArray⟩) := hT2
  have zT1 : T1.size ≤ 4000000 := by
    rw [HT1.out, size_mk]
    have k : (a.scheme ++ 58 :: tellAuth a.auth).length ≤ (tellAddr a).length := by
      unfold tellAddr
      simp only [List.length_append, List.length_cons]
      omega
    have := HZ.out
    omega
  have HG1 : Hid (a.auth.has = false → twoAhead (tellWay a.way) = true → (T1 ++ ⟨#[47, 46]⟩ : ByteArray) = T2) := by
    intro h1 h2
    rw [hT2, HT1.out, HGA.out, if_pos ⟨h1, h2⟩]
    simp only [app_mk]
    simp
  have HG2 : Hid (¬ (a.auth.has = false ∧ twoAhead (tellWay a.way) = true) → T1 = T2) := by
    intro h1
    rw [hT2, HT1.out, HGA.out, if_neg h1]
    simp
  have z46 : (⟨#[47, 46]⟩ : ByteArray).size = 2 := rfl
  have g0 : ∀ W : World, (Op.stringOp .add T1 ⟨#[47, 46]⟩).run Tryz.prog W = .ok (.string (T1 ++ ⟨#[47, 46]⟩)) W := fun W => run_string_add_sum W _ _ (by omega)
  clear hT2
  obtain ⟨gb, hgb⟩ : ∃ gb : Bool, gb = (!a.auth.has && twoAhead (tellWay a.way)) := ⟨_, rfl⟩
  have HGB : Hid (gb = (!a.auth.has && twoAhead (tellWay a.way))) := hgb
  obtain ⟨p2, hp2⟩ : ∃ p2 : ByteArray, p2 = pt.extract 0 2 := ⟨_, rfl⟩
  have hx2 : pt.extract 0 2 = p2 := hp2.symm
  have HTA : Hid (twoAhead (tellWay a.way) = (decide (1 < pt.size) && (p2.toList == [47, 47]))) := by
    show _ = _
    rw [hp2, HPTH.out, size_mk, Lib.toList_data]
    unfold twoAhead
    congr 2
    simp
  clear hgb hp2
  go_upto_region 26 with fail
  go_cut [155] (fun x155 wx => x155 = .bool gb ∧ wx = wc)
  case first =>
    as_aux_lemma =>
      by_cases hh : a.auth.has = true
      · have hb0 : gb = false := by rw [HGB.out, hh]; rfl
        have HBV : Hid (Value.bool false = Value.bool gb) := congrArg Value.bool hb0.symm
        rw [hh] at d3
        clear hb0
        go_wp2_with fail
        go_meet
        exact ⟨HBV.out, rfl⟩
      · have hh2 : a.auth.has = false := by simpa using hh
        rw [hh2] at d3
        by_cases hl1 : (1 : Int) < (pt.size : Int)
        · have hl2 : (2 : Int) ≤ (pt.size : Int) := by omega
          have HBV : Hid (Value.bool (p2.toList == [47, 47]) = Value.bool gb) := by
            show _ = _
            rw [HGB.out, hh2, HTA.out, decide_eq_true (by omega : 1 < pt.size)]
            rfl
          go_wp2_with fail
          go_meet
          exact ⟨HBV.out, rfl⟩
        · have HBV : Hid (Value.bool false = Value.bool gb) := by
            show _ = _
            rw [HGB.out, hh2, HTA.out, decide_eq_false (by omega : ¬ 1 < pt.size)]
            rfl
          go_wp2_with fail
          go_meet
          exact ⟨HBV.out, rfl⟩
  case rest =>
  obtain ⟨rfl, rfl⟩ := hcut
  clear hx2 HTA
  go_upto_if 155 with fail
  go_cut [18] (fun x18 wx => x18 = .string T2 ∧ wx = wc)
  case first =>
    as_aux_lemma =>
      cases hgb : gb with
      | true =>
        have hq := HGB.out
        rw [hgb] at hq
        have hq2 : a.auth.has = false ∧ twoAhead (tellWay a.way) = true := by
          have := hq.symm
          simpa using this
        have HX : Hid (_ = T2) := HG1.out hq2.1 hq2.2
        clear hq hq2
        go_wp2_with fail
        go_meet
        exact ⟨congrArg Value.string HX.out, rfl⟩
      | false =>
        have hq := HGB.out
        rw [hgb] at hq
        have HX : Hid (T1 = T2) := HG2.out (by
          rintro ⟨h1, h2⟩
          rw [h1, h2] at hq
          cases hq)
        clear hq
        go_wp2_with fail
        go_meet
        exact ⟨congrArg Value.string HX.out, rfl⟩
  case rest =>
  obtain ⟨rfl, rfl⟩ := hcut
  clear g0 HG1 HG2 HGB HGA
  have HT3 : Hid ((T2 ++ pt : ByteArray) = ⟨(a.scheme ++ 58 :: (tellAuth a.auth ++ (guardB a ++ tellWay a.way))).toArray⟩) := by
    show _ = _
    rw [HT2.out, HPTH.out]
    simp only [app_mk]
    simp
  obtain ⟨T3, hT3⟩ : ∃ T3 : ByteArray, T3 = T2 ++ pt := ⟨_, rfl⟩
  have hs3 : T2 ++ pt = T3 := hT3.symm
  have HT3' : Hid (T3 = ⟨(a.scheme ++ 58 :: (tellAuth a.auth ++ (guardB a ++ tellWay a.way))).toArray⟩) := hT3.trans HT3.out
  have zT3 : T3.size ≤ 2000 := by
    rw [HT3'.out, size_mk]
    have k : (a.scheme ++ 58 :: (tellAuth a.auth ++ (guardB a ++ tellWay a.way))).length ≤ (tellAddr a).length := by
      unfold tellAddr
      simp only [List.length_append, List.length_cons]
      omega
    have := HZ.out
    omega
  have zT2 : T2.size ≤ 2000 := by
    have : (T2 ++ pt).size = T2.size + pt.size := ByteArray.size_append
    rw [hs3] at this
    omega
  have g0 : ∀ W : World, (Op.stringOp .add T2 pt).run Tryz.prog W = .ok (.string (T2 ++ pt)) W := fun W => run_string_add_sum W _ _ (by omega)
  clear hT3 HT3
  have z63 : (⟨#[63]⟩ : ByteArray).size = 1 := rfl
  have z35 : (⟨#[35]⟩ : ByteArray).size = 1 := rfl
  obtain ⟨T4, hT4⟩ : ∃ T4 : ByteArray, T4 = ⟨(a.scheme ++ 58 :: (tellAuth a.auth ++ (guardB a ++ (tellWay a.way ++ tellOpt 63 a.query)))).toArray⟩ := ⟨_, rfl⟩
  have HQ1 : Hid (a.query.isSome = true → (T3 ++ ⟨#[63]⟩ ++ qu : ByteArray) = T4) := by
    intro h1
    obtain ⟨x, hx⟩ := Option.isSome_iff_exists.1 h1
    rw [hT4, HT3'.out, HQU.out, hx]
    simp only [app_mk]
    simp [tellOpt]
  have HQ2 : Hid (a.query.isSome = false → T3 = T4) := by
    intro h1
    rw [hT4, HT3'.out, Option.isSome_eq_false_iff.1 h1 |> Option.isNone_iff_eq_none.1]
    simp [tellOpt]
  have HT4 : Hid (T4 = ⟨(a.scheme ++ 58 :: (tellAuth a.auth ++ (guardB a ++ (tellWay a.way ++ tellOpt 63 a.query)))).toArray⟩) := hT4
  have g1 : ∀ W : World, (Op.stringOp .add T3 ⟨#[63]⟩).run Tryz.prog W = .ok (.string (T3 ++ ⟨#[63]⟩)) W := fun W => run_string_add_sum W _ _ (by omega)
  have g2 : ∀ W : World, (Op.stringOp .add (T3 ++ ⟨#[63]⟩) qu).run Tryz.prog W = .ok (.string (T3 ++ ⟨#[63]⟩ ++ qu)) W := fun W => run_string_add_sum W _ _ (by simp only [ByteArray.size_append]; omega)
  clear hT4
  go_upto_if 163 with fail
  go_cut [18] (fun x18 wx => x18 = .string T4 ∧ wx = wc)
  case first =>
    as_aux_lemma =>
      by_cases hh : a.query.isSome = true
      · rw [hh] at d8 ⊢
        have HX : Hid (_ = T4) := HQ1.out hh
        go_wp2_with fail
        go_meet
        exact ⟨congrArg Value.string HX.out, rfl⟩
      · have hh2 : a.query.isSome = false := by simpa using hh
        rw [hh2] at d8 ⊢
        have HX : Hid (T3 = T4) := HQ2.out hh2
        go_wp2_with fail
        go_meet
        exact ⟨congrArg Value.string HX.out, rfl⟩
  case rest =>
  obtain ⟨rfl, rfl⟩ := hcut
  clear g0 g1 g2 HQ1 HQ2 hs3
  have zT4 : T4.size ≤ 2000 := by
    rw [HT4.out, size_mk]
    have k : (a.scheme ++ 58 :: (tellAuth a.auth ++ (guardB a ++ (tellWay a.way ++ tellOpt 63 a.query)))).length ≤ (tellAddr a).length := by
      unfold tellAddr
      simp only [List.length_append, List.length_cons]
      omega
    have := HZ.out
    omega
  have HF1 : Hid (a.frag.isSome = true → (T4 ++ ⟨#[35]⟩ ++ fr : ByteArray) = sb) := by
    intro h1
    obtain ⟨x, hx⟩ := Option.isSome_iff_exists.1 h1
    rw [HSB.out, HT4.out, HFR.out]
    unfold tellAddr
    rw [hx]
    simp only [app_mk]
    simp [tellOpt]
  have HF2 : Hid (a.frag.isSome = false → T4 = sb) := by
    intro h1
    rw [HSB.out, HT4.out]
    unfold tellAddr
    rw [Option.isSome_eq_false_iff.1 h1 |> Option.isNone_iff_eq_none.1]
    simp [tellOpt]
  have g1 : ∀ W : World, (Op.stringOp .add T4 ⟨#[35]⟩).run Tryz.prog W = .ok (.string (T4 ++ ⟨#[35]⟩)) W := fun W => run_string_add_sum W _ _ (by omega)
  have g2 : ∀ W : World, (Op.stringOp .add (T4 ++ ⟨#[35]⟩) fr).run Tryz.prog W = .ok (.string (T4 ++ ⟨#[35]⟩ ++ fr)) W := fun W => run_string_add_sum W _ _ (by simp only [ByteArray.size_append]; omega)
  go_upto_if 170 with fail
  go_cut [18] (fun x18 wx => x18 = .string sb ∧ wx = wc)
  case first =>
    as_aux_lemma =>
      by_cases hh : a.frag.isSome = true
      · rw [hh] at d10 ⊢
        have HX : Hid (_ = sb) := HF1.out hh
        go_wp2_with fail
        go_meet
        exact ⟨congrArg Value.string HX.out, rfl⟩
      · have hh2 : a.frag.isSome = false := by simpa using hh
        rw [hh2] at d10 ⊢
        have HX : Hid (T4 = sb) := HF2.out hh2
        go_wp2_with fail
        go_meet
        exact ⟨congrArg Value.string HX.out, rfl⟩
  case rest =>
  obtain ⟨rfl, rfl⟩ := hcut
  clear g1 g2 HF1 HF2
  have HSY : Hid (∀ (q : Nat) (hq : q < sb.size), 33 ≤ sb[q].toNat ∧ sb[q].toNat ≤ 126) := by
    intro q hq
    have : sb[q] ∈ tellAddr a := by
      have h2 : (tellAddr a)[q]? = some sb[q] := by
        have hq2 : q < (tellAddr a).length := by have := HZ.out; omega
        rw [List.getElem?_eq_getElem hq2]
        congr 1
        have hsbe := HSB.out
        subst hsbe
        rfl
      exact List.mem_of_getElem? h2
    exact HBY.out _ this
  go_wp2_with fail
  go_loopw [19] (fun i wr => ∃ q : Nat, q ≤ sb.size ∧ i = .int .i64 q ∧ wr = wc) (fun i _ => sb.size - (intOf i).toNat)
  case atStart => exact ⟨0, Nat.zero_le _, rfl, rfl⟩
  case round =>
    obtain ⟨q, hq, rfl, rfl⟩ := hrel
    by_cases hlt : q < sb.size
    · have hby := HSY.out q hlt
      have h1 : ¬ ((sb[q].toNat : Int) < 33) := by omega
      have h2 : ¬ ((126 : Int) < (sb[q].toNat : Int)) := by omega
      clear hby
      go_wp2
      go_roundw
      case rel => exact ⟨q + 1, by omega, by go_num, trivial⟩
      case measure => (simp [intOf]; try omega)
    · go_wp2
      go_ret
      exact ⟨rfl, HVB.out _ HB7.out⟩
end Go.Proofs
