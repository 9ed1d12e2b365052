import Derived.Test.YtkcnageeamappaaGreatDoorXQ6
import Derived.Test.YtkcnageeamappaaGreatDoorXQ10P
import Derived.Test.YtkcnageeamappaaGreatDoorXSIp6L
namespace Go.Proofs
open Go.RowKit Go.Moor
theorem zrun_step (ps : List Nat) (i : Nat) (h : i < ps.length) : zrun (ps.drop i) = if ps[i] = 0 then zrun (ps.drop (i + 1)) + 1 else 0 := by
  rw [List.drop_eq_getElem_cons h]
  rfl
theorem zrun_le : ∀ l : List Nat, zrun l ≤ l.length
  | [] => Nat.le_refl _
  | p :: l => by
    unfold zrun
    split
    · have := zrun_le l; simp; omega
    · simp
theorem best_step (ps : List Nat) (i : Nat) (h : i < ps.length) (f : Int) (s : Nat) : bestRun (ps.drop i) i f s = if s < zrun (ps.drop i) then bestRun (ps.drop (i + 1)) (i + 1) i (zrun (ps.drop i)) else bestRun (ps.drop (i + 1)) (i + 1) f s := by
  conv => lhs; rw [List.drop_eq_getElem_cons h]
  rw [List.drop_eq_getElem_cons h]
  rfl
theorem best_range : ∀ (l : List Nat) (i : Nat) (f : Int) (s : Nat), -1 ≤ f → f + s ≤ i + l.length → -1 ≤ (bestRun l i f s).1 ∧ (bestRun l i f s).1 + (bestRun l i f s).2 ≤ i + l.length
  | [], i, f, s, h, h2 => ⟨h, h2⟩
  | p :: l, i, f, s, h, h2 => by
    unfold bestRun
    have hz := zrun_le (p :: l)
    simp only [List.length_cons] at hz h2 ⊢
    split
    · have := best_range l (i + 1) i (zrun (p :: l)) (by omega) (by omega)
      refine ⟨this.1, ?_⟩
      have h3 := this.2
      omega
    · have := best_range l (i + 1) f s h (by omega)
      refine ⟨this.1, ?_⟩
      have h3 := this.2
      omega
theorem row_snoc (ps : List Nat) (i : Nat) (h : i < ps.length) : tellRow (ps.take (i + 1)) = if i = 0 then pieceTxt ps[i] else tellRow (ps.take i) ++ 58 :: pieceTxt ps[i] := by
  have e : ps.take (i + 1) = ps.take i ++ [ps[i]] := by
    rw [List.take_add_one, List.getElem?_eq_getElem h]
    rfl
  rw [e]
  unfold tellRow
  rw [List.map_append]
  have hl : ((ps.take i).map pieceTxt).length = i := by simp; omega
  generalize (ps.take i).map pieceTxt = l at *
  cases l with
  | nil =>
    simp at hl
    rw [if_pos hl.symm]
    exact Lib.join_one _ _
  | cons x r =>
    rw [if_neg (by simp at hl; omega)]
    rw [List.cons_append, Lib.join_cons, Lib.join_cons]
    unfold Lib.joinTail
    simp
def outAt (ps : List Nat) (f s : Nat) (i : Nat) : List UInt8 :=
  if i ≤ f then tellRow (ps.take i) else if i ≤ f + s then tellRow (ps.take f) ++ [58, 58] else tellRow (ps.take f) ++ ([58, 58] ++ tellRow ((ps.drop (f + s)).take (i - (f + s))))
theorem outAt_a (ps : List Nat) (f s i : Nat) (h : i < f) (hi : i < ps.length) : outAt ps f s (i + 1) = if i = 0 then pieceTxt ps[i] else outAt ps f s i ++ 58 :: pieceTxt ps[i] := by
  have e1 : outAt ps f s (i + 1) = tellRow (ps.take (i + 1)) := if_pos (by omega)
  have e2 : outAt ps f s i = tellRow (ps.take i) := if_pos (by omega)
  rw [e1, e2]
  exact row_snoc ps i hi
theorem outAt_b (ps : List Nat) (f s : Nat) (hs : 0 < s) : outAt ps f s (f + 1) = outAt ps f s f ++ [58, 58] := by
  unfold outAt
  rw [if_neg (by omega), if_pos (by omega), if_pos (by omega)]
theorem outAt_c (ps : List Nat) (f s i : Nat) (h : f < i) (h2 : i < f + s) : outAt ps f s (i + 1) = outAt ps f s i := by
  unfold outAt
  rw [if_neg (by omega), if_pos (by omega), if_neg (by omega), if_pos (by omega)]
theorem outAt_de (ps : List Nat) (f s i : Nat) (hs : 0 < s) (h : f + s ≤ i) (hi : i < ps.length) : outAt ps f s (i + 1) = if i = f + s then outAt ps f s i ++ pieceTxt ps[i] else outAt ps f s i ++ 58 :: pieceTxt ps[i] := by
  have hd : i - (f + s) < (ps.drop (f + s)).length := by rw [List.length_drop]; omega
  have hr := row_snoc (ps.drop (f + s)) (i - (f + s)) hd
  have hg : (ps.drop (f + s))[i - (f + s)] = ps[i] := by
    rw [List.getElem_drop]
    congr 1
    omega
  rw [hg] at hr
  unfold outAt
  rw [if_neg (by omega), if_neg (by omega), show i + 1 - (f + s) = i - (f + s) + 1 by omega, hr]
  by_cases he : i = f + s
  · rw [if_pos (by omega), if_pos he, if_neg (by omega), if_pos (by omega)]
    simp
  · rw [if_neg (by omega), if_neg he, if_neg (by omega), if_neg (by omega)]
    simp
theorem outAt_len (ps : List Nat) (f s i : Nat) (h8 : ps.length = 8) : (outAt ps f s i).length ≤ 100 := by
  have h1 := tellRow_len (ps.take i)
  have h2 := tellRow_len (ps.take f)
  have h3 := tellRow_len ((ps.drop (f + s)).take (i - (f + s)))
  rw [List.length_take] at h1 h2 h3
  rw [List.length_drop] at h3
  unfold outAt
  split
  · omega
  · split
    · simp; omega
    · simp; omega
theorem outAt_end (ps : List Nat) (f s : Nat) (h : f + s ≤ 8) (h8 : ps.length = 8) (hs : 0 < s) : outAt ps f s 8 = tellRow (ps.take f) ++ ([58, 58] ++ tellRow (ps.drop (f + s))) := by
  unfold outAt
  rw [if_neg (by omega)]
  split
  · have : f + s = 8 := by omega
    rw [this, List.drop_eq_nil_of_le (by omega)]
    rfl
  · rw [show List.take (8 - (f + s)) (List.drop (f + s) ps) = List.drop (f + s) ps from List.take_of_length_le (by rw [List.length_drop]; omega)]
set_option maxHeartbeats 16000000 in
set_option maxRecDepth 4000 in
theorem Tryz.rtell_any (ps : List Nat) (h8 : ps.length = 8) (hp : ∀ p ∈ ps, p < 65536) (w : World) :
    Calls Tryz.prog 117 #[.agg (ps.map fun p => Value.int .i64 (p : Nat)).toArray] w fun e w' => e = .returned (.string ⟨(sixTell ps).toArray⟩) ∧ Below w.heap.size w w' := by
  obtain ⟨cs, hcs⟩ : ∃ cs, cs = (ps.map fun p => Value.int .i64 (p : Nat)).toArray := ⟨_, rfl⟩
  rw [← hcs]
  obtain ⟨W, hW⟩ : ∃ W, W = w.alloc (.cells cs 34) := ⟨_, rfl⟩
  have hBW : Below w.heap.size w W := by
    rw [hW]
    exact (Below.refl _ _).alloc (Nat.le_refl _) _
  have hz : W.heap[w.heap.size]? = some (.cells cs 34 (0, 0)) := by rw [hW]; exact heap_alloc_new w _
  have hzs : w.heap.size < W.heap.size := (Array.getElem?_eq_some_iff.1 hz).1
  have HCE : Hid (∀ (i : Nat) (h : i < ps.length) w1, Below W.heap.size W w1 → w1.cell? ⟨w.heap.size, i, none⟩ = some (.int .i64 (ps[i] : Nat))) := by
    intro i h w1 b
    have k := (b.block w.heap.size hzs).trans hz
    unfold World.cell?
    simp [k, hcs, h]
  have HBW : Hid (∀ w1, Below W.heap.size W w1 → Below w.heap.size w w1) := fun w1 b => hBW.trans (b.mono (Nat.le_of_lt hzs))
  have HS : Hid (∀ (i : Nat) (h : i < ps.length) w1, Calls Tryz.prog 172 #[.int .i64 (ps[i] : Nat)] w1 fun e w' => e = .returned (.string ⟨(pieceTxt ps[i]).toArray⟩) ∧ ∃ nd, w' = w1.drewN nd) := by
    intro i h w1
    have hpi := hp ps[i] (List.getElem_mem h)
    exact Tryz.rsixteen_any 3 ps[i] w1 (by omega) (by omega) (by omega)
  have hbn := best_noughts ps h8
  have HBR : Hid (-1 ≤ (bestRun ps 0 (-1) 1).1 ∧ (bestRun ps 0 (-1) 1).1 + (bestRun ps 0 (-1) 1).2 ≤ 8) := by
    have := best_range ps 0 (-1) 1 (by omega) (by omega)
    refine ⟨this.1, ?_⟩
    have h2 := this.2
    omega
  have HBN : Hid _ := hbn
  clear hbn hcs hBW hz
  go_enter Tryz.func117, Tryz.ntmps117
  go_upto_region 1 with fail
  rw [← hW]
  clear hW
  go_wp2_with fail
  go_loopw [3, 4, 5] (fun a b i wr => ∃ (k : Nat) (f : Int) (s : Nat), k ≤ 8 ∧ a = .int .i64 f ∧ b = .int .i64 (s : Nat) ∧ i = .int .i64 (k : Nat) ∧ s ≤ 8 ∧ bestRun (ps.drop k) k f s = bestRun ps 0 (-1) 1 ∧ wr = W) (fun _ _ i _ => 8 - (intOf i).toNat)
  case atStart => exact ⟨0, -1, 1, Nat.zero_le _, rfl, rfl, rfl, by omega, rfl, rfl⟩
  case round =>
    obtain ⟨k, f, s, hk, rfl, rfl, rfl, hs8, hbest, hwr⟩ := hrel
    have hwr := hwr.symm
    subst hwr
    have HBS : Hid (bestRun (ps.drop k) k f s = bestRun ps 0 (-1) 1) := hbest
    clear hbest
    by_cases hlt : k < 8
    · have hk2 : k < ps.length := by omega
      have hst := best_step ps k hk2 f s
      have HST : Hid _ := hst
      have hki : (k : Int) < 8 := by omega
      have hzk : zrun (ps.drop k) ≤ 8 - k := by have := zrun_le (ps.drop k); rw [List.length_drop] at this; omega
      clear hst
      go_wp2_with fail
      go_loopw [6] (fun n wr => ∃ m : Nat, k + m ≤ 8 ∧ n = .int .i64 (m : Nat) ∧ m + zrun (ps.drop (k + m)) = zrun (ps.drop k) ∧ wr = W) (fun n _ => 8 - (intOf n).toNat)
      case atStart => exact ⟨0, by omega, rfl, by simp, rfl⟩
      case round =>
        obtain ⟨m, hm, rfl, hzr, hwr⟩ := hrel
        have hwr := hwr.symm
        subst hwr
        have HZR : Hid (m + zrun (ps.drop (k + m)) = zrun (ps.drop k)) := hzr
        clear hzr
        by_cases hkm : k + m < 8
        · have hkm2 : k + m < ps.length := by omega
          have hkmi : (k : Int) + (m : Int) < 8 := by omega
          have cc := HCE.out (k + m) hkm2 W (Below.refl _ _)
          have hzs2 := zrun_step ps (k + m) hkm2
          have HZ2 : Hid _ := hzs2
          clear hzs2
          by_cases hp0 : ps[k + m] = 0
          · have HZN : Hid (m + 1 + zrun (ps.drop (k + (m + 1))) = zrun (ps.drop k)) := by
              show _ = _
              have h1 := HZR.out
              have h2 := HZ2.out
              rw [if_pos hp0] at h2
              rw [show k + (m + 1) = k + m + 1 by omega]
              omega
            rw [hp0] at cc
            clear hp0
            go_wp2
            go_roundw
            case rel => exact ⟨m + 1, by omega, by go_num, HZN.out, trivial⟩
            case measure => (simp [intOf]; try omega)
          · have HMZ : Hid (m = zrun (ps.drop k)) := by
              show _ = _
              have h1 := HZR.out
              have h2 := HZ2.out
              rw [if_neg hp0] at h2
              omega
            have hne : (((ps[k + m] : Nat) : Int) == 0) = false := by rw [beq_eq_false_iff_ne]; omega
            generalize ps[k + m] = pk at *
            clear hp0
            have hmi : (m : Int) ≤ 8 := by omega
            by_cases hgt : s < m
            · have hgi : (s : Int) < (m : Int) := by omega
              have HNW : Hid (bestRun (ps.drop (k + 1)) (k + 1) k m = bestRun ps 0 (-1) 1) := by
                show _ = _
                have h1 := HST.out
                rw [← HMZ.out, if_pos hgt] at h1
                rw [← h1]
                exact HBS.out
              go_wp2
              go_roundw
              case rel => exact ⟨k + 1, k, m, by omega, rfl, rfl, by go_num, by omega, HNW.out, trivial⟩
              case measure => (simp [intOf]; try omega)
            · have hgi : ¬ (s : Int) < (m : Int) := by omega
              have HNW : Hid (bestRun (ps.drop (k + 1)) (k + 1) f s = bestRun ps 0 (-1) 1) := by
                show _ = _
                have h1 := HST.out
                rw [← HMZ.out, if_neg hgt] at h1
                rw [← h1]
                exact HBS.out
              go_wp2
              go_roundw
              case rel => exact ⟨k + 1, f, s, by omega, rfl, rfl, by go_num, hs8, HNW.out, trivial⟩
              case measure => (simp [intOf]; try omega)
        · have HMZ : Hid (m = zrun (ps.drop k)) := by
            show _ = _
            have h1 := HZR.out
            rw [List.drop_eq_nil_of_le (by omega)] at h1
            exact h1
          have hkmi : ¬ (k : Int) + (m : Int) < 8 := by omega
          have hmi : (m : Int) ≤ 8 := by omega
          by_cases hgt : s < m
          · have hgi : (s : Int) < (m : Int) := by omega
            have HNW : Hid (bestRun (ps.drop (k + 1)) (k + 1) k m = bestRun ps 0 (-1) 1) := by
              show _ = _
              have h1 := HST.out
              rw [← HMZ.out, if_pos hgt] at h1
              rw [← h1]
              exact HBS.out
            go_wp2
            go_roundw
            case rel => exact ⟨k + 1, k, m, by omega, rfl, rfl, by go_num, by omega, HNW.out, trivial⟩
            case measure => (simp [intOf]; try omega)
          · have hgi : ¬ (s : Int) < (m : Int) := by omega
            have HNW : Hid (bestRun (ps.drop (k + 1)) (k + 1) f s = bestRun ps 0 (-1) 1) := by
              show _ = _
              have h1 := HST.out
              rw [← HMZ.out, if_neg hgt] at h1
              rw [← h1]
              exact HBS.out
            go_wp2
            go_roundw
            case rel => exact ⟨k + 1, f, s, by omega, rfl, rfl, by go_num, hs8, HNW.out, trivial⟩
            case measure => (simp [intOf]; try omega)
    · have hke : k = 8 := by omega
      subst hke
      have HFS : Hid ((f, s) = bestRun ps 0 (-1) 1) := by
        show _ = _
        have h := HBS.out
        rw [List.drop_eq_nil_of_le (by omega)] at h
        exact h
      by_cases hno : (noughts ps 0 0 0 0).2 < 2
      · have hfs := HFS.out
        rw [HBN.out, if_pos hno] at hfs
        injection hfs with hf hs
        subst hf hs
        have HT : Hid (sixTell ps = tellRow ps) := if_pos hno
        clear hno HBN HBS HFS HBR
        go_wp2_with fail
        go_loopw [7, 8] (fun o i wr => ∃ i0 : Nat, i0 ≤ 8 ∧ i = .int .i64 (i0 : Nat) ∧ o = .string ⟨(tellRow (ps.take i0)).toArray⟩ ∧ Below W.heap.size W wr) (fun _ i _ => 8 - (intOf i).toNat)
        case atStart => exact ⟨0, Nat.zero_le _, rfl, rfl, Below.refl _ _⟩
        case round =>
          obtain ⟨i, hi, rfl, rfl, hb⟩ := hrel
          have HB : Hid (Below W.heap.size W wr) := hb
          by_cases hi8 : i < 8
          · have hi2 : i < ps.length := by omega
            have hii : (i : Int) < 8 := by omega
            have cc := HCE.out i hi2 wr hb
            have hrs := row_snoc ps i hi2
            have hl1 := tellRow_len (ps.take i)
            have hl2 : (pieceTxt ps[i]).length ≤ 4 := digs_len 16 3 ps[i]
            have hsz1 : (⟨(tellRow (ps.take i)).toArray⟩ : ByteArray).size ≤ 40 := by rw [size_mk]; rw [List.length_take] at hl1; omega
            have hsz2 : (⟨(pieceTxt ps[i]).toArray⟩ : ByteArray).size ≤ 4 := by rw [size_mk]; exact hl2
            have hm1 : ((i : Int) == -1) = false := by rw [beq_eq_false_iff_ne]; omega
            clear hb hl1 hl2
            by_cases h0 : i = 0
            · subst h0
              rw [if_pos rfl] at hrs
              have HA : Hid ((⟨(tellRow (ps.take 0)).toArray⟩ : ByteArray) ++ ⟨(pieceTxt ps[0]).toArray⟩ = ⟨(tellRow (ps.take (0 + 1))).toArray⟩) := by
                show _ = _
                rw [hrs]
                exact app_mk [] _
              generalize (⟨(tellRow (ps.take 0)).toArray⟩ : ByteArray) = acc at *
              obtain ⟨pt, hpt⟩ : ∃ pt : ByteArray, pt = ⟨(pieceTxt ps[0]).toArray⟩ := ⟨_, rfl⟩
              have HSI : Hid (Calls Tryz.prog 172 #[.int .i64 (ps[0] : Nat)] wr fun e w' => e = .returned (.string pt) ∧ ∃ nd, w' = wr.drewN nd) := by show Calls _ _ _ _ _; rw [hpt]; exact HS.out 0 hi2 wr
              rw [← hpt] at HA hsz2
              have g1 : ∀ W : World, (Op.stringOp .add acc pt).run Tryz.prog W = .ok (.string (acc ++ pt)) W := fun W => run_string_add_sum W _ _ (by omega)
              clear hrs hpt hsz1 hsz2
              go_wp2_with fail
              refine Calls.mono HSI.out ?_
              rintro e w2 ⟨rfl, nd, rfl⟩
              have HB2 : Hid (Below W.heap.size W (wr.drewN nd)) := Go.below_drewN HB.out nd
              clear cc
              go_wp2
              go_roundw
              case rel => exact ⟨1, by omega, by go_num, congrArg Value.string HA.out, HB2.out⟩
              case measure => (simp [intOf]; try omega)
            · rw [if_neg h0] at hrs
              have hpos : (0 : Int) < (i : Int) := by omega
              have hne0 : ((i : Int) == 0) = false := by rw [beq_eq_false_iff_ne]; omega
              have HA : Hid ((⟨(tellRow (ps.take i)).toArray⟩ : ByteArray) ++ ⟨#[58]⟩ ++ ⟨(pieceTxt ps[i]).toArray⟩ = ⟨(tellRow (ps.take (i + 1))).toArray⟩) := by
                show _ = _
                have e1 : (⟨(tellRow (ps.take i)).toArray⟩ : ByteArray) ++ ⟨#[58]⟩ = ⟨(tellRow (ps.take i) ++ [58]).toArray⟩ := app_mk _ [58]
                rw [e1, app_mk, hrs]
                simp
              generalize (⟨(tellRow (ps.take i)).toArray⟩ : ByteArray) = acc at *
              obtain ⟨pt, hpt⟩ : ∃ pt : ByteArray, pt = ⟨(pieceTxt ps[i]).toArray⟩ := ⟨_, rfl⟩
              have HSI : Hid (Calls Tryz.prog 172 #[.int .i64 (ps[i] : Nat)] wr fun e w' => e = .returned (.string pt) ∧ ∃ nd, w' = wr.drewN nd) := by show Calls _ _ _ _ _; rw [hpt]; exact HS.out i hi2 wr
              rw [← hpt] at HA hsz2
              have z58 : (⟨#[58]⟩ : ByteArray).size = 1 := rfl
              have g0 : ∀ W : World, (Op.stringOp .add acc ⟨#[58]⟩).run Tryz.prog W = .ok (.string (acc ++ ⟨#[58]⟩)) W := fun W => run_string_add_sum W _ _ (by omega)
              have g1 : ∀ W : World, (Op.stringOp .add (acc ++ ⟨#[58]⟩) pt).run Tryz.prog W = .ok (.string (acc ++ ⟨#[58]⟩ ++ pt)) W := fun W => run_string_add_sum W _ _ (by simp only [ByteArray.size_append]; omega)
              clear hrs hpt hsz1 hsz2 z58 h0
              go_wp2_with fail
              refine Calls.mono HSI.out ?_
              rintro e w2 ⟨rfl, nd, rfl⟩
              have HB2 : Hid (Below W.heap.size W (wr.drewN nd)) := Go.below_drewN HB.out nd
              clear cc
              go_wp2
              go_roundw
              case rel => exact ⟨i + 1, by omega, by go_num, congrArg Value.string HA.out, HB2.out⟩
              case measure => (simp [intOf]; try omega)
          · have hie : ps.take i = ps := List.take_of_length_le (by omega)
            rw [hie]
            clear hie hb
            go_wp2
            go_ret
            rw [HT.out]
            exact ⟨rfl, HBW.out _ HB.out⟩
      · have hfs := HFS.out
        rw [HBN.out, if_neg hno] at hfs
        injection hfs with hf hs
        have hbr := HBR.out
        rw [HBN.out, if_neg hno] at hbr
        have HT : Hid (sixTell ps = tellRow (ps.take (noughts ps 0 0 0 0).1) ++ ([58, 58] ++ tellRow (ps.drop ((noughts ps 0 0 0 0).1 + (noughts ps 0 0 0 0).2)))) := if_neg hno
        have hS2 : 2 ≤ (noughts ps 0 0 0 0).2 := by omega
        have hF8 : (noughts ps 0 0 0 0).1 + (noughts ps 0 0 0 0).2 ≤ 8 := by have := hbr.2; simp only at this; omega
        generalize (noughts ps 0 0 0 0).1 = F at *
        generalize (noughts ps 0 0 0 0).2 = S at *
        subst hf hs
        clear hno HBN HBS HFS HBR hbr
        go_wp2_with fail
        go_loopw [7, 8] (fun o i wr => ∃ i0 : Nat, i0 ≤ 8 ∧ i = .int .i64 (i0 : Nat) ∧ o = .string ⟨(outAt ps F s i0).toArray⟩ ∧ Below W.heap.size W wr) (fun _ i _ => 8 - (intOf i).toNat)
        case atStart => exact ⟨0, Nat.zero_le _, rfl, by unfold outAt; rw [if_pos (by omega)]; rfl, Below.refl _ _⟩
        case round =>
          obtain ⟨i, hi, rfl, rfl, hb⟩ := hrel
          have HB : Hid (Below W.heap.size W wr) := hb
          by_cases hi8 : i < 8
          · have hi2 : i < ps.length := by omega
            have hii : (i : Int) < 8 := by omega
            have cc := HCE.out i hi2 wr hb
            have hl1 := outAt_len ps F s i h8
            have hl2 : (pieceTxt ps[i]).length ≤ 4 := digs_len 16 3 ps[i]
            obtain ⟨acc, hacc⟩ : ∃ acc : ByteArray, acc = ⟨(outAt ps F s i).toArray⟩ := ⟨_, rfl⟩
            obtain ⟨pt, hpt⟩ : ∃ pt : ByteArray, pt = ⟨(pieceTxt ps[i]).toArray⟩ := ⟨_, rfl⟩
            have hsz1 : acc.size ≤ 100 := by rw [hacc, size_mk]; exact hl1
            have hsz2 : pt.size ≤ 4 := by rw [hpt, size_mk]; exact hl2
            have HSI : Hid (Calls Tryz.prog 172 #[.int .i64 (ps[i] : Nat)] wr fun e w' => e = .returned (.string pt) ∧ ∃ nd, w' = wr.drewN nd) := by show Calls _ _ _ _ _; rw [hpt]; exact HS.out i hi2 wr
            have hF0 : (0 : Int) ≤ (F : Int) := by omega
            rw [← hacc]
            clear hb hl1 hl2
            by_cases hA : i < F
            · have hst := outAt_a ps F s i hA hi2
              have hne1 : ((i : Int) == (F : Int)) = false := by rw [beq_eq_false_iff_ne]; omega
              have hlt1 : ¬ (F : Int) ≤ (i : Int) := by omega
              by_cases h0 : i = 0
              · rw [if_pos h0] at hst
                have hnp : ¬ (0 : Int) < (i : Int) := by omega
                have HA : Hid (acc ++ pt = ⟨(outAt ps F s (i + 1)).toArray⟩) := by
                  show _ = _
                  have e0 : outAt ps F s i = [] := by rw [h0]; unfold outAt; rw [if_pos (by omega)]; rfl
                  rw [hacc, hpt, hst, e0]
                  exact app_mk [] _
                have g1 : ∀ W : World, (Op.stringOp .add acc pt).run Tryz.prog W = .ok (.string (acc ++ pt)) W := fun W => run_string_add_sum W _ _ (by omega)
                clear hst hacc hpt hsz1 hsz2 h0
                go_wp2_with fail
                refine Calls.mono HSI.out ?_
                rintro e w2 ⟨rfl, nd, rfl⟩
                have HB2 : Hid (Below W.heap.size W (wr.drewN nd)) := Go.below_drewN HB.out nd
                clear cc
                go_wp2
                go_roundw
                case rel => exact ⟨i + 1, by omega, by go_num, congrArg Value.string HA.out, HB2.out⟩
                case measure => (simp [intOf]; try omega)
              · rw [if_neg h0] at hst
                have HSTEP : Hid _ := hst
                have hpos : (0 : Int) < (i : Int) := by omega
                have hne0 : ((i : Int) == (F : Int) + (s : Int)) = false := by rw [beq_eq_false_iff_ne]; omega
                clear hst h0
                have HA : Hid (acc ++ ⟨#[58]⟩ ++ pt = ⟨(outAt ps F s (i + 1)).toArray⟩) := by
                  show _ = _
                  have e1 : (⟨(outAt ps F s i).toArray⟩ : ByteArray) ++ ⟨#[58]⟩ = ⟨(outAt ps F s i ++ [58]).toArray⟩ := app_mk _ [58]
                  rw [hacc, hpt, HSTEP.out, e1, app_mk]
                  simp
                have z58 : (⟨#[58]⟩ : ByteArray).size = 1 := rfl
                have g0 : ∀ W : World, (Op.stringOp .add acc ⟨#[58]⟩).run Tryz.prog W = .ok (.string (acc ++ ⟨#[58]⟩)) W := fun W => run_string_add_sum W _ _ (by omega)
                have g1 : ∀ W : World, (Op.stringOp .add (acc ++ ⟨#[58]⟩) pt).run Tryz.prog W = .ok (.string (acc ++ ⟨#[58]⟩ ++ pt)) W := fun W => run_string_add_sum W _ _ (by simp only [ByteArray.size_append]; omega)
                clear z58
                clear hacc hpt hsz1 hsz2
                go_wp2_with fail
                refine Calls.mono HSI.out ?_
                rintro e w2 ⟨rfl, nd, rfl⟩
                have HB2 : Hid (Below W.heap.size W (wr.drewN nd)) := Go.below_drewN HB.out nd
                clear cc
                go_wp2
                go_roundw
                case rel => exact ⟨i + 1, by omega, by go_num, congrArg Value.string HA.out, HB2.out⟩
                case measure => (simp [intOf]; try omega)
            · by_cases hB : i = F
              · have hst := outAt_b ps F s (by omega)
                have heq1 : ((i : Int) == (F : Int)) = true := by rw [beq_iff_eq]; omega
                have hge1 : (F : Int) ≤ (i : Int) := by omega
                have hlt2 : (i : Int) < (F : Int) + (s : Int) := by omega
                have HA : Hid (acc ++ ⟨#[58, 58]⟩ = ⟨(outAt ps F s (i + 1)).toArray⟩) := by
                  show _ = _
                  rw [hacc, hB, hst]
                  exact app_mk _ [58, 58]
                have z58 : (⟨#[58, 58]⟩ : ByteArray).size = 2 := rfl
                have g1 : ∀ W : World, (Op.stringOp .add acc ⟨#[58, 58]⟩).run Tryz.prog W = .ok (.string (acc ++ ⟨#[58, 58]⟩)) W := fun W => run_string_add_sum W _ _ (by omega)
                clear hst hacc hpt hsz1 hsz2 z58 hB hA HSI
                go_wp2
                go_roundw
                case rel => exact ⟨i + 1, by omega, by go_num, congrArg Value.string HA.out, HB.out⟩
                case measure => (simp [intOf]; try omega)
              · have hne1 : ((i : Int) == (F : Int)) = false := by rw [beq_eq_false_iff_ne]; omega
                have hge1 : (F : Int) ≤ (i : Int) := by omega
                by_cases hC : i < F + s
                · have hst := outAt_c ps F s i (by omega) hC
                  have hlt2 : (i : Int) < (F : Int) + (s : Int) := by omega
                  have HA : Hid (acc = ⟨(outAt ps F s (i + 1)).toArray⟩) := by show _ = _; rw [hacc, hst]
                  clear hst hacc hpt hsz1 hsz2 hB hA HSI hC
                  go_wp2
                  go_roundw
                  case rel => exact ⟨i + 1, by omega, by go_num, congrArg Value.string HA.out, HB.out⟩
                  case measure => (simp [intOf]; try omega)
                · have hst := outAt_de ps F s i (by omega) (by omega) hi2
                  have hlt2 : ¬ (i : Int) < (F : Int) + (s : Int) := by omega
                  have hpos : (0 : Int) < (i : Int) := by omega
                  by_cases hD : i = F + s
                  · rw [if_pos hD] at hst
                    have heq0 : ((i : Int) == (F : Int) + (s : Int)) = true := by rw [beq_iff_eq]; omega
                    have HA : Hid (acc ++ pt = ⟨(outAt ps F s (i + 1)).toArray⟩) := by
                      show _ = _
                      rw [hacc, hpt, hst]
                      exact app_mk _ _
                    have g1 : ∀ W : World, (Op.stringOp .add acc pt).run Tryz.prog W = .ok (.string (acc ++ pt)) W := fun W => run_string_add_sum W _ _ (by omega)
                    clear hst hacc hpt hsz1 hsz2 hB hA hC hD
                    go_wp2_with fail
                    refine Calls.mono HSI.out ?_
                    rintro e w2 ⟨rfl, nd, rfl⟩
                    have HB2 : Hid (Below W.heap.size W (wr.drewN nd)) := Go.below_drewN HB.out nd
                    clear cc
                    go_wp2
                    go_roundw
                    case rel => exact ⟨i + 1, by omega, by go_num, congrArg Value.string HA.out, HB2.out⟩
                    case measure => (simp [intOf]; try omega)
                  · rw [if_neg hD] at hst
                    have HSTEP : Hid _ := hst
                    have hne0 : ((i : Int) == (F : Int) + (s : Int)) = false := by rw [beq_eq_false_iff_ne]; omega
                    clear hst hB hA hC hD
                    have HA : Hid (acc ++ ⟨#[58]⟩ ++ pt = ⟨(outAt ps F s (i + 1)).toArray⟩) := by
                      show _ = _
                      have e1 : (⟨(outAt ps F s i).toArray⟩ : ByteArray) ++ ⟨#[58]⟩ = ⟨(outAt ps F s i ++ [58]).toArray⟩ := app_mk _ [58]
                      rw [hacc, hpt, HSTEP.out, e1, app_mk]
                      simp
                    have z58 : (⟨#[58]⟩ : ByteArray).size = 1 := rfl
                    have g0 : ∀ W : World, (Op.stringOp .add acc ⟨#[58]⟩).run Tryz.prog W = .ok (.string (acc ++ ⟨#[58]⟩)) W := fun W => run_string_add_sum W _ _ (by omega)
                    have g1 : ∀ W : World, (Op.stringOp .add (acc ++ ⟨#[58]⟩) pt).run Tryz.prog W = .ok (.string (acc ++ ⟨#[58]⟩ ++ pt)) W := fun W => run_string_add_sum W _ _ (by simp only [ByteArray.size_append]; omega)
                    clear z58
                    clear hacc hpt hsz1 hsz2
                    go_wp2_with fail
                    refine Calls.mono HSI.out ?_
                    rintro e w2 ⟨rfl, nd, rfl⟩
                    have HB2 : Hid (Below W.heap.size W (wr.drewN nd)) := Go.below_drewN HB.out nd
                    clear cc
                    go_wp2
                    go_roundw
                    case rel => exact ⟨i + 1, by omega, by go_num, congrArg Value.string HA.out, HB2.out⟩
                    case measure => (simp [intOf]; try omega)
          · have hie : i = 8 := by omega
            subst hie
            have HE : Hid _ := outAt_end ps F s hF8 h8 (by omega)
            clear hb
            go_wp2
            go_ret
            rw [HT.out, ← HE.out]
            exact ⟨rfl, HBW.out _ HB.out⟩
end Go.Proofs
