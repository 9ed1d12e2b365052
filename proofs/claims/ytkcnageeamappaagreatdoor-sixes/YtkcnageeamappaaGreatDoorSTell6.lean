/-
  What host.tellIP6 tells.
-/
import Derived.Test.YtkcnageeamappaaGreatDoorSRow
namespace Go.Proofs
open Go.RowKit Go.Moor

theorem nats8_cell (w : World) (ps : List Nat) (t : TypeId) : ∀ (j p : Nat), ps[j]? = some p → (w.alloc (.cells (nats8 ps) t)).cell? ⟨w.heap.size, 0 + j, none⟩ = some (.int .u64 (p : Nat)) := by
  intro j p h
  rw [Nat.zero_add, World.cell?_alloc_new]
  exact nats8_at ps j p h

set_option maxHeartbeats 1000000 in
set_option maxRecDepth 100000 in
theorem Tryz.tellIP6_any (ps : List Nat) (w : World) (h8 : ps.length = 8) (hps : ∀ p ∈ ps, p < 65536) (henv : Tryz.Env w) (htz : Tryz.Tz w) :
    Calls Tryz.prog 140 #[.agg (nats8 ps)] w fun e w' => e = .returned (.string ⟨(sixTell ps).toArray⟩) ∧ Below w.heap.size w w' := by
  have hg15 := henv.size
  have hbd := noughts_bound 8 ps 0 0 0 0 (by omega) (by omega) (by omega)
  have HB0 : Hid (Below w.heap.size w (w.alloc (.cells (nats8 ps) 177))) := (Below.refl _ w).alloc (Nat.le_refl _) _
  have HV0 : Hid (Tryz.Env (w.alloc (.cells (nats8 ps) 177))) := henv.below HB0.out
  have HT0 : Hid (Tryz.Tz (w.alloc (.cells (nats8 ps) 177))) := htz.below HB0.out (by omega)
  have HSZ : Hid ((Tryz.prog.info? 177).map (·.size) = some (nats8 ps).size) := by
    show _ = _
    rw [nats8_size, h8]; exact Tryz.size8
  have HN : Hid ((w.alloc (.cells (nats8 ps) 177)).heap[w.heap.size]? = some (.cells (nats8 ps) 177 (0, 0))) := heap_alloc_new w _
  have HL : Hid (Calls Tryz.prog 195 #[.agg (nats8 ps)] (w.alloc (.cells (nats8 ps) 177)) fun e w' => e = .returned (.tuple #[.int .i64 ((noughts ps 0 0 0 0).1 : Nat), .int .i64 ((noughts ps 0 0 0 0).2 : Nat)]) ∧ Below (w.alloc (.cells (nats8 ps) 177)).heap.size (w.alloc (.cells (nats8 ps) 177)) w') := Tryz.longest_any ps _ h8 hps
  have HCX : Hid (∀ (W : World) (o cap : Nat) (qs : List Nat), Below (w.alloc (.cells (nats8 ps) 177)).heap.size (w.alloc (.cells (nats8 ps) 177)) W → qs.length ≤ 8 → qs.length ≤ cap → cap ≤ 8 → (∀ j p, qs[j]? = some p → ps[o + j]? = some p) → Calls Tryz.prog 196 #[.slice (some ⟨w.heap.size, o, none⟩) qs.length cap] W fun e w' => e = .returned (.string ⟨(tellRow qs).toArray⟩) ∧ Below W.heap.size W w') := by
    intro W o cap qs hW h1 h2 h3 hin
    have hz := hW.size
    refine Tryz.tellPieces_any w.heap.size o cap qs W (by simp at hz; omega) h1 h2 h3 (fun p hp => ?_) (fun j p hj => ?_) (HV0.out.below hW) (HT0.out.below hW (by simp; omega))
    · obtain ⟨j, hj⟩ := List.mem_iff_getElem?.1 hp
      exact hps p (List.mem_of_getElem? (hin j p hj))
    · rw [hW.cell (p := ⟨w.heap.size, o + j, none⟩) (by simp)]
      have := nats8_cell w ps 177 (o + j) p (hin j p hj)
      rw [Nat.zero_add] at this
      exact this
  generalize hs : (noughts ps 0 0 0 0).1 = s at *
  generalize hl : (noughts ps 0 0 0 0).2 = l at *
  have HST : Hid (sixTell ps = if l < 2 then tellRow ps else tellRow (ps.take s) ++ ([58, 58] ++ tellRow (ps.drop (s + l)))) := by
    show _ = _
    unfold sixTell
    rw [hs, hl]
  have H8 : Hid (ps.length = 8) := h8
  clear h8 hps henv htz hs hl
  go_enter Tryz.func140, Tryz.ntmps140
  go_wp2_with (first | refine wpList_load_row rfl 177 _ rfl w.heap.size rfl 177 (nats8 ps) (0, 0) _ HN.out Tryz.underlying177 rfl HSZ.out ?_ | fail)
  refine HL.out.mono ?_
  rintro e w1 ⟨rfl, hb1⟩
  have HB1 : Hid (Below (w.alloc (.cells (nats8 ps) 177)).heap.size (w.alloc (.cells (nats8 ps) 177)) w1) := hb1
  have HBW : Hid (Below w.heap.size w w1) := HB0.out.trans (hb1.mono (by simp))
  clear hb1
  by_cases hl2 : l < 2
  · have HC1 : Hid (Calls Tryz.prog 196 #[.slice (some ⟨w.heap.size, 0, none⟩) 8 8] w1 fun e w' => e = .returned (.string ⟨(tellRow ps).toArray⟩) ∧ Below w1.heap.size w1 w') := by
      have := HCX.out w1 0 8 ps HB1.out (by rw [H8.out]; omega) (by rw [H8.out]; omega) (by omega) (fun j p hj => by rw [Nat.zero_add]; exact hj)
      rw [H8.out] at this
      exact this
    go_wp2_with fail
    refine HC1.out.mono ?_
    rintro e w2 ⟨rfl, hb2⟩
    go_wp2
    go_ret
    refine ⟨?_, HBW.out.trans (hb2.mono HBW.out.size)⟩
    rw [HST.out, if_pos hl2]
    rfl
  · have hs8 : s ≤ 8 := by omega
    have HC1 : Hid (∀ W, Below w1.heap.size w1 W → Calls Tryz.prog 196 #[.slice (some ⟨w.heap.size, 0, none⟩) s 8] W fun e w' => e = .returned (.string ⟨(tellRow (ps.take s)).toArray⟩) ∧ Below W.heap.size W w') := by
      intro W hW
      have := HCX.out W 0 8 (ps.take s) (HB1.out.trans (hW.mono HB1.out.size)) (by simp; rw [H8.out]; omega) (by simp; rw [H8.out]; omega) (by omega) (fun j p hj => by
        rw [Nat.zero_add]
        rw [List.getElem?_take] at hj
        split at hj
        · exact hj
        · simp at hj)
      rw [List.length_take, H8.out, Nat.min_eq_left hs8] at this
      exact this
    have hsl1 : ∀ W, (Instr.sliceAt 177 (.pointer (some ⟨w.heap.size, 0, none⟩)) none (some (.int .i64 (s : Nat))) none).run Tryz.prog W = .ok (.slice (some ⟨w.heap.size, 0, none⟩) s 8) W := fun W => Tryz.slice8_high w.heap.size s hs8 W
    have hlen1 := tellRow_len (ps.take s)
    have hlen2 := tellRow_len (ps.drop (s + l))
    have hlen3 : (ps.take s).length ≤ 8 := by simp; omega
    have hlen4 : (ps.drop (s + l)).length ≤ 8 := by simp; rw [H8.out]; omega
    obtain ⟨d, hd⟩ : ∃ d, s + l = d := ⟨_, rfl⟩
    obtain ⟨D, hDD⟩ : ∃ D, D = ps.drop d := ⟨_, rfl⟩
    obtain ⟨T, hTT⟩ : ∃ T, T = ps.take s := ⟨_, rfl⟩
    obtain ⟨r, hr⟩ : ∃ r, d + r = 8 := ⟨8 - d, by omega⟩
    rw [hd, ← hDD] at hlen2 hlen4
    rw [← hTT] at HC1 hlen1 hlen3
    have hDl : D.length = r := by rw [hDD, List.length_drop, H8.out]; omega
    have hdi : (s : Int) + (l : Int) = (d : Int) := by omega
    have hdw : IntKind.i64.wrap (d : Int) = (d : Int) := wrap_i64 _ (by omega) (by omega)
    have HFIN : Hid (sixTell ps = tellRow T ++ ([58, 58] ++ tellRow D)) := by
      show _ = _
      rw [HST.out, if_neg hl2, hd, hDD, hTT]
    have hd9 : d ≤ 8 := by omega
    have hll : l ≤ 8 := by omega
    clear hTT hbd hd HST
    by_cases hd8 : d < 8
    · skip
      have HC2 : Hid (∀ W, Below w1.heap.size w1 W → Calls Tryz.prog 196 #[.slice (some ⟨w.heap.size, d, none⟩) r r] W fun e w' => e = .returned (.string ⟨(tellRow D).toArray⟩) ∧ Below W.heap.size W w') := by
        intro W hW
        have := HCX.out W d r D (HB1.out.trans (hW.mono HB1.out.size)) hlen4 (by omega) (by omega) (fun j p hj => by
          rw [hDD, List.getElem?_drop] at hj
          exact hj)
        rw [hDl] at this
        exact this
      have hsl2 : ∀ W, (Instr.sliceAt 177 (.pointer (some ⟨w.heap.size, 0, none⟩)) (some (.int .i64 (d : Nat))) none none).run Tryz.prog W = .ok (.slice (some ⟨w.heap.size, d, none⟩) r r) W := fun W => by
        have := Tryz.slice8_low w.heap.size d hd8 W
        rw [show 8 - d = r by omega] at this
        exact this
      clear hr hDD
      go_wp2_with fail
      go_region_with (first | (go_at_call_of 196 (Value.slice (some ⟨w.heap.size, 0, none⟩) s 8); refine (HC1.out _ (by with_reducible exact (Below.refl _ w1).drew)).mono ?_; rintro e w2 ⟨rfl, hb2⟩) | (go_at_call_of 196 (Value.slice (some ⟨w.heap.size, d, none⟩) r r); refine (HC2.out _ (by exact ((Below.refl _ w1).drew).trans hb2)).mono ?_; rintro e w3 ⟨rfl, hb3⟩))
      all_goals
        go_wp2
        go_ret
        refine ⟨?_, HBW.out.trans ((((Below.refl _ w1).drew).trans (hb2.trans (hb3.mono hb2.size))).mono HBW.out.size)⟩
        rw [HFIN.out]
        show Ending.returned (.string ((⟨(tellRow T).toArray⟩ ++ ⟨#[58, 58]⟩) ++ ⟨(tellRow D).toArray⟩)) = _
        rw [show (⟨#[58, 58]⟩ : ByteArray) = ⟨[58, 58].toArray⟩ from rfl, app_mk, app_mk, List.append_assoc]
    · skip
      have HC2 : Hid (∀ W, Below w1.heap.size w1 W → Calls Tryz.prog 196 #[.slice (some ⟨w.heap.size, 0, none⟩) 0 0] W fun e w' => e = .returned (.string ⟨(tellRow D).toArray⟩) ∧ Below W.heap.size W w') := by
        intro W hW
        have e : D = [] := by rw [hDD]; exact List.drop_eq_nil_of_le (by rw [H8.out]; omega)
        rw [e]
        exact HCX.out W 0 0 [] (HB1.out.trans (hW.mono HB1.out.size)) (by simp) (by simp) (by omega) (fun j p hj => by simp at hj)
      have hsl2 : ∀ W, (Instr.sliceAt 177 (.pointer (some ⟨w.heap.size, 0, none⟩)) (some (.int .i64 (d : Nat))) none none).run Tryz.prog W = .ok (.slice (some ⟨w.heap.size, 0, none⟩) 0 0) W := fun W => by
        rw [show (d : Int) = 8 by omega]
        exact Tryz.slice8_end w.heap.size W
      clear hr hDD
      go_wp2_with fail
      go_region_with (first | (go_at_call_of 196 (Value.slice (some ⟨w.heap.size, 0, none⟩) s 8); refine (HC1.out _ (by with_reducible exact (Below.refl _ w1).drew)).mono ?_; rintro e w2 ⟨rfl, hb2⟩) | (go_at_call_of 196 (Value.slice (some ⟨w.heap.size, 0, none⟩) 0 0); refine (HC2.out _ (by exact ((Below.refl _ w1).drew).trans hb2)).mono ?_; rintro e w3 ⟨rfl, hb3⟩))
      all_goals
        go_wp2
        go_ret
        refine ⟨?_, HBW.out.trans ((((Below.refl _ w1).drew).trans (hb2.trans (hb3.mono hb2.size))).mono HBW.out.size)⟩
        rw [HFIN.out]
        show Ending.returned (.string ((⟨(tellRow T).toArray⟩ ++ ⟨#[58, 58]⟩) ++ ⟨(tellRow D).toArray⟩)) = _
        rw [show (⟨#[58, 58]⟩ : ByteArray) = ⟨[58, 58].toArray⟩ from rfl, app_mk, app_mk, List.append_assoc]
end Go.Proofs
