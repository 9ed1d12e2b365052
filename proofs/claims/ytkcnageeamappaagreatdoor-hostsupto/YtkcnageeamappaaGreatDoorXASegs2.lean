import Derived.Test.YtkcnageeamappaaGreatDoorXSIp6L
import Derived.Test.YtkcnageeamappaaGreatDoorXQ4
import Derived.Test.YtkcnageeamappaaGreatDoorXLabels
import Derived.Deep.AppendLies
import Derived.WalkSmall
namespace Go.Proofs
open Go.RowKit Go.Moor
theorem Tryz.infoStr : (Tryz.prog.info? 9).map (fun i => (i.zero, i.size, i.bytes)) = some (some (.string ⟨#[]⟩), 1, 16) := by kernel_rfl
set_option maxHeartbeats 4000000 in
theorem Tryz.tellPieces_any (b o cap : Nat) (ps : List Nat) (w : World) (hb : b < w.heap.size) (hn : ps.length ≤ 8) (hcap : ps.length ≤ cap) (hcap2 : cap ≤ 8) (hps : ∀ p ∈ ps, p < 65536)
    (hcl : ∀ (j : Nat) p, ps[j]? = some p → w.cell? ⟨b, o + j, none⟩ = some (.int .u64 (p : Nat))) (henv : Tryz.Env w) (htz : Tryz.Tz w) :
    Calls Tryz.prog 196 #[.slice (some ⟨b, o, none⟩) ps.length cap] w fun e w' => e = .returned (.string ⟨(tellRow ps).toArray⟩) ∧ Below w.heap.size w w' := by
  have HC : Hid (∀ (j : Nat) p, ps[j]? = some p → w.cell? ⟨b, o + j, none⟩ = some (.int .u64 (p : Nat))) := hcl
  have HS : Hid (∀ p ∈ ps, p < 65536) := hps
  have HV : Hid (Tryz.Env w) := henv
  have HT : Hid (Tryz.Tz w) := htz
  obtain ⟨i0, hi, hz0, hz1, hz2⟩ := info_parts Tryz.infoStr
  have hgz := henv.size
  clear hcl hps henv htz
  go_enter Tryz.func196, Tryz.ntmps196
  go_wp2
  go_loopw [3, 8] (fun v i wr => ∃ q : Nat, q ≤ ps.length ∧ i = .int .i64 q ∧ wr.ownsRow w.heap.size 9 1 v q ((ps.take q).map fun p => Value.string (pieceStr p)) ∧ Below w.heap.size w wr) (fun _ i _ => ps.length - (intOf i).toNat)
  case atStart => exact ⟨0, Nat.zero_le _, rfl, World.ownsRow_nil _ _ _ _, Below.refl _ _⟩
  case round =>
    obtain ⟨q, hq, rfl, hown, hbw⟩ := hrel
    have HB : Hid (Below w.heap.size w wr) := hbw
    have HO : Hid (wr.ownsRow w.heap.size 9 1 _ q ((ps.take q).map fun p => Value.string (pieceStr p))) := hown
    have hwz := hbw.size
    clear hbw hown
    by_cases hlt : q < ps.length
    · obtain ⟨x, hx⟩ : ∃ x, ps[q]? = some x := ⟨ps[q]'hlt, by simp⟩
      have hc : wr.cell? ⟨b, o + q, none⟩ = some (.int .u64 (x : Nat)) := (HB.out.cell (by exact hb)).trans (HC.out q x hx)
      have hxm := HS.out x (List.mem_of_getElem? hx)
      have HTK : Hid ((ps.take (q + 1)).map (fun p => Value.string (pieceStr p)) = (ps.take q).map (fun p => Value.string (pieceStr p)) ++ [.string (pieceStr x)]) := by
        show _ = _
        rw [List.take_add_one, hx]
        simp
      have HVr : Hid (Tryz.Env wr) := HV.out.below HB.out
      have HTr : Hid (Tryz.Tz wr) := HT.out.below HB.out (by omega)
      clear hx
      go_wp2_with fail
      refine (Tryz.fmt16_any x hxm _ HVr.out HTr.out).mono ?_
      rintro e w2 ⟨rfl, hb2⟩
      have hown2 := own_below HO.out hb2
      have HO2 := hown2.alloc (.cells #[.string (pieceStr x)] 9)
      have HB2 : Hid (Below w.heap.size w w2) := HB.out.trans (hb2.mono hwz)
      have hw2 := HB2.out.size
      have hps : (⟨(digsF 16 3 x).toArray⟩ : ByteArray) = pieceStr x := rfl
      clear hb2 hown2
      go_wp2_with (at_builtin; refine wpList_append_own _ rfl _ _ 28 rfl w.heap.size 9 i0 (.string ⟨#[]⟩) 1 16 Tryz.underlying28 hi hz0 hz1 hz2 rfl (by decide) _ _ _ rfl HO2 ⟨w2.heap.size, 0, none⟩ 1 1 [.string (pieceStr x)] rfl rfl ?c1 ?c2 ?c3 ?c4 ?c5 ?_)
      case c1 =>
        intro j u hj
        match j, hj with
        | 0, hj => simp at hj; subst hj; exact World.cell?_alloc_new w2 #[.string (pieceStr x)] 9 0
      case c2 => intro u hu; simp at hu; subst hu; rfl
      case c3 => unfold maxLen; omega
      case c4 => omega
      case c5 => simp; omega
      intro v' w3 hown' hgrow _
      have HOW : Hid (w3.ownsRow w.heap.size 9 1 v' (q + 1) ((ps.take q).map (fun p => Value.string (pieceStr p)) ++ [.string (pieceStr x)])) := by
        show World.ownsRow _ _ _ _ _ _ _
        rw [List.map_take]
        exact hown'
      have HBB : Hid (Below w.heap.size w w3) := (HB2.out.alloc (by omega) _).grown hgrow (by simp; omega) (fun k hk => (HO2.lt k hk).1)
      clear hown' hgrow HO2
      go_wp2
      go_roundw
      case rel =>
        refine ⟨q + 1, by omega, by go_num, ?_, HBB.out⟩
        rw [HTK.out]
        exact HOW.out
      case measure => simp [intOf]; omega
    · have hqe : q = ps.length := by omega
      subst hqe
      have hown := HO.out
      rw [List.take_length] at hown
      obtain ⟨sp, cap2, rfl, hform⟩ := own_form hown
      have HCT : Hid (Calls Tryz.prog 189 #[.slice sp ps.length cap2, .string ⟨#[58]⟩] wr fun e w' => e = .returned (.string ⟨(tellRow ps).toArray⟩) ∧ Below wr.heap.size wr w') := by
        by_cases h0 : ps.length = 0
        · have := Tryz.strings_Join_none sp cap2 ⟨#[58]⟩ wr
          have he : ps = [] := List.eq_nil_of_length_eq_zero h0
          subst he
          refine this.mono ?_
          rintro e w' ⟨rfl, rfl⟩
          exact ⟨rfl, Below.refl _ _⟩
        · obtain ⟨g, rfl, _, hcells⟩ := hform (by omega)
          have hcc : ps.length ≤ cap2 := by
            rcases hown.2 with ⟨h, _⟩ | ⟨g', cap', cur, h, _, _, h4, _⟩
            · cases h
            · cases h; exact h4
          have hj := Tryz.strings_Join g 0 cap2 (ps.map pieceStr) ⟨#[58]⟩ wr (by
              intro j x hx
              rw [Nat.zero_add]
              refine hcells j (.string x) ?_
              rw [List.getElem?_map] at hx ⊢
              cases hp : ps[j]? with
              | none => rw [hp] at hx; simp at hx
              | some p => rw [hp] at hx; simp at hx ⊢; exact hx) (by
              obtain ⟨x, hx⟩ : ∃ x, ps[0]? = some x := ⟨ps[0]'(by omega), by simp⟩
              exact block_lt_of_cell (hcells 0 (.string (pieceStr x)) (by rw [List.getElem?_map, hx]; rfl))) (by simp; omega) (by simpa using hcc) (by
              have := tellRow_len ps
              unfold tellRow at this
              have e : ((ps.map pieceStr).map (·.data.toList)) = ps.map pieceTxt := by
                rw [List.map_map]; rfl
              rw [e]
              show (Lib.join (ps.map pieceTxt) [58]).length ≤ _
              omega)
          have e : ((ps.map pieceStr).map (·.data.toList)) = ps.map pieceTxt := by
            rw [List.map_map]; rfl
          rw [e, List.length_map] at hj
          exact hj
      clear hown hform
      go_wp2_with fail
      refine HCT.out.mono ?_
      rintro e w2 ⟨rfl, hb2⟩
      go_wp2
      go_ret
      exact ⟨rfl, HB.out.trans (hb2.mono hwz)⟩
end Go.Proofs
namespace Go.Proofs
open Go.RowKit Go.Moor
theorem Tryz.index8 (cs : Array Value) (q : Nat) (v : Value) (hq : q < 8) (h : cs[q]? = some v) (w : World) : (Instr.index 177 (.agg cs) (.int .i64 q)).run Tryz.prog w = .ok v w := by
  simp [Instr.index, asIntOf, run_underlying Tryz.underlying177, run_underlying Tryz.underlying151, part, isAgg, h, hq]
set_option maxHeartbeats 4000000 in
set_option maxRecDepth 100000 in
theorem Tryz.longest_any (ps : List Nat) (w : World) (h8 : ps.length = 8) (hps : ∀ p ∈ ps, p < 65536) :
    Calls Tryz.prog 195 #[.agg (nats8 ps)] w fun e w' => e = .returned (.tuple #[.int .i64 ((noughts ps 0 0 0 0).1 : Nat), .int .i64 ((noughts ps 0 0 0 0).2 : Nat)]) ∧ Below w.heap.size w w' := by
  have HS : Hid (∀ p ∈ ps, p < 65536) := hps
  have HSZ : Hid ((Tryz.prog.info? 177).map (·.size) = some (nats8 ps).size) := by
    show _ = _
    rw [nats8_size, h8]; exact Tryz.size8
  have HL : Hid (ps.length = 8) := h8
  have HN : Hid ((w.alloc (.cells (nats8 ps) 177)).heap[w.heap.size]? = some (.cells (nats8 ps) 177 (0, 0))) := heap_alloc_new w _
  generalize hgo : noughts ps 0 0 0 0 = goal
  have HG : Hid (noughts ps 0 0 0 0 = goal) := hgo
  clear hps h8 hgo
  go_enter Tryz.func195, Tryz.ntmps195
  go_wp2_with (first | refine wpList_load_row rfl 177 _ rfl w.heap.size rfl 177 (nats8 ps) (0, 0) _ HN.out Tryz.underlying177 rfl HSZ.out ?_)
  go_loop [2, 3, 4, 8] (fun s l r i => ∃ si li ri q : Nat, s = .int .i64 si ∧ l = .int .i64 li ∧ r = .int .i64 ri ∧ i = .int .i64 q ∧ q ≤ 8 ∧ ri ≤ q ∧ li ≤ 8 ∧ si ≤ 8 ∧ noughts (ps.drop q) q ri si li = goal) (fun _ _ _ i => 8 - (intOf i).toNat)
  case atStart => exact ⟨0, 0, 0, 0, rfl, rfl, rfl, rfl, by omega, by omega, by omega, by omega, HG.out⟩
  case round =>
    obtain ⟨si, li, ri, q, rfl, rfl, rfl, rfl, hq, hri, hli, hsi, hrest⟩ := hrel
    have HR : Hid (noughts (ps.drop q) q ri si li = goal) := hrest
    clear hrest
    by_cases hlt : q < 8
    · obtain ⟨x, hx⟩ : ∃ x, ps[q]? = some x := ⟨ps[q]'(by have := HL.out; omega), by simp⟩
      have hix := nats8_at ps q x hx
      have hrun := Tryz.index8 (nats8 ps) q _ hlt hix (w.alloc (.cells (nats8 ps) 177))
      clear hix
      have hxm := HS.out x (List.mem_of_getElem? hx)
      have HD : Hid (ps.drop q = x :: ps.drop (q + 1)) := by
        obtain ⟨h1, h2⟩ := List.getElem?_eq_some_iff.1 hx
        show _ = _
        rw [List.drop_eq_getElem_cons h1, h2]
      clear hx
      by_cases hx0 : x = 0
      · subst hx0
        by_cases hgt : li < ri + 1
        · go_wp2
          go_round
          case rel =>
            refine ⟨q - ri, ri + 1, ri + 1, q + 1, ?_, by go_num, by go_num, by go_num, by omega, by omega, by omega, by omega, ?_⟩
            · congr 1
              omega
            · have h1 := HR.out
              rw [HD.out] at h1
              unfold noughts at h1
              rw [if_neg (by simp), if_pos hgt] at h1
              exact h1
          case measure => simp [intOf]; omega
        · go_wp2
          go_round
          case rel =>
            refine ⟨si, li, ri + 1, q + 1, rfl, rfl, by go_num, by go_num, by omega, by omega, by omega, by omega, ?_⟩
            have h1 := HR.out
            rw [HD.out] at h1
            unfold noughts at h1
            rw [if_neg (by simp), if_neg hgt] at h1
            exact h1
          case measure => simp [intOf]; omega
      · go_wp2
        go_round
        case rel =>
          refine ⟨si, li, 0, q + 1, rfl, rfl, rfl, by go_num, by omega, by omega, by omega, by omega, ?_⟩
          have h1 := HR.out
          rw [HD.out] at h1
          unfold noughts at h1
          rw [if_pos hx0] at h1
          exact h1
        case measure => simp [intOf]; omega
    · go_wp2
      go_ret2
      have h1 := HR.out
      rw [List.drop_eq_nil_of_le (by have := HL.out; omega)] at h1
      refine ⟨?_, (Below.refl _ w).alloc (Nat.le_refl _) _⟩
      rw [← h1]
      rfl
end Go.Proofs
namespace Go.Proofs
open Go.RowKit Go.Moor
theorem nats8_cell (w : World) (ps : List Nat) (t : TypeId) : ∀ (j p : Nat), ps[j]? = some p → (w.alloc (.cells (nats8 ps) t)).cell? ⟨w.heap.size, 0 + j, none⟩ = some (.int .u64 (p : Nat)) := by
  intro j p h
  rw [Nat.zero_add, World.cell?_alloc_new]
  exact nats8_at ps j p h
set_option maxHeartbeats 1000000 in
set_option maxRecDepth 100000 in
theorem Tryz.tellIP6_any (ps : List Nat) (w : World) (h8 : ps.length = 8) (hps : ∀ p ∈ ps, p < 65536) (henv : Tryz.Env w) (htz : Tryz.Tz w) :
    Calls Tryz.prog 140 #[.agg (nats8 ps)] w fun e w' => e = .returned (.string ⟨(sixTell ps).toArray⟩) ∧ Below w.heap.size w w' := by
  have hg15 := henv.size
  have hbd := noughts_bound 8 ps 0 0 0 0 (by omega) (by omega) (by omega)
  have HB0 : Hid (Below w.heap.size w (w.alloc (.cells (nats8 ps) 177))) := (Below.refl _ w).alloc (Nat.le_refl _) _
  have HV0 : Hid (Tryz.Env (w.alloc (.cells (nats8 ps) 177))) := henv.below HB0.out
  have HT0 : Hid (Tryz.Tz (w.alloc (.cells (nats8 ps) 177))) := htz.below HB0.out (by omega)
  have HSZ : Hid ((Tryz.prog.info? 177).map (·.size) = some (nats8 ps).size) := by
    show _ = _
    rw [nats8_size, h8]; exact Tryz.size8
  have HN : Hid ((w.alloc (.cells (nats8 ps) 177)).heap[w.heap.size]? = some (.cells (nats8 ps) 177 (0, 0))) := heap_alloc_new w _
  have HL : Hid (Calls Tryz.prog 195 #[.agg (nats8 ps)] (w.alloc (.cells (nats8 ps) 177)) fun e w' => e = .returned (.tuple #[.int .i64 ((noughts ps 0 0 0 0).1 : Nat), .int .i64 ((noughts ps 0 0 0 0).2 : Nat)]) ∧ Below (w.alloc (.cells (nats8 ps) 177)).heap.size (w.alloc (.cells (nats8 ps) 177)) w') := Tryz.longest_any ps _ h8 hps
  have HCX : Hid (∀ (W : World) (o cap : Nat) (qs : List Nat), Below (w.alloc (.cells (nats8 ps) 177)).heap.size (w.alloc (.cells (nats8 ps) 177)) W → qs.length ≤ 8 → qs.length ≤ cap → cap ≤ 8 → (∀ j p, qs[j]? = some p → ps[o + j]? = some p) → Calls Tryz.prog 196 #[.slice (some ⟨w.heap.size, o, none⟩) qs.length cap] W fun e w' => e = .returned (.string ⟨(tellRow qs).toArray⟩) ∧ Below W.heap.size W w') := by
    intro W o cap qs hW h1 h2 h3 hin
    have hz := hW.size
    refine Tryz.tellPieces_any w.heap.size o cap qs W (by simp at hz; omega) h1 h2 h3 (fun p hp => ?_) (fun j p hj => ?_) (HV0.out.below hW) (HT0.out.below hW (by simp; omega))
    · obtain ⟨j, hj⟩ := List.mem_iff_getElem?.1 hp
      exact hps p (List.mem_of_getElem? (hin j p hj))
    · rw [hW.cell (p := ⟨w.heap.size, o + j, none⟩) (by simp)]
      have := nats8_cell w ps 177 (o + j) p (hin j p hj)
      rw [Nat.zero_add] at this
      exact this
  generalize hs : (noughts ps 0 0 0 0).1 = s at *
  generalize hl : (noughts ps 0 0 0 0).2 = l at *
  have HST : Hid (sixTell ps = if l < 2 then tellRow ps else tellRow (ps.take s) ++ ([58, 58] ++ tellRow (ps.drop (s + l)))) := by
    show _ = _
    unfold sixTell
    rw [hs, hl]
  have H8 : Hid (ps.length = 8) := h8
  clear h8 hps henv htz hs hl
  go_enter Tryz.func140, Tryz.ntmps140
  go_wp2_with (first | refine wpList_load_row rfl 177 _ rfl w.heap.size rfl 177 (nats8 ps) (0, 0) _ HN.out Tryz.underlying177 rfl HSZ.out ?_ | fail)
  refine HL.out.mono ?_
  rintro e w1 ⟨rfl, hb1⟩
  have HB1 : Hid (Below (w.alloc (.cells (nats8 ps) 177)).heap.size (w.alloc (.cells (nats8 ps) 177)) w1) := hb1
  have HBW : Hid (Below w.heap.size w w1) := HB0.out.trans (hb1.mono (by simp))
  clear hb1
  by_cases hl2 : l < 2
  · have HC1 : Hid (Calls Tryz.prog 196 #[.slice (some ⟨w.heap.size, 0, none⟩) 8 8] w1 fun e w' => e = .returned (.string ⟨(tellRow ps).toArray⟩) ∧ Below w1.heap.size w1 w') := by
      have := HCX.out w1 0 8 ps HB1.out (by rw [H8.out]; omega) (by rw [H8.out]; omega) (by omega) (fun j p hj => by rw [Nat.zero_add]; exact hj)
      rw [H8.out] at this
      exact this
    go_wp2_with fail
    refine HC1.out.mono ?_
    rintro e w2 ⟨rfl, hb2⟩
    go_wp2
    go_ret
    refine ⟨?_, HBW.out.trans (hb2.mono HBW.out.size)⟩
    rw [HST.out, if_pos hl2]
    rfl
  · have hs8 : s ≤ 8 := by omega
    have HC1 : Hid (∀ W, Below w1.heap.size w1 W → Calls Tryz.prog 196 #[.slice (some ⟨w.heap.size, 0, none⟩) s 8] W fun e w' => e = .returned (.string ⟨(tellRow (ps.take s)).toArray⟩) ∧ Below W.heap.size W w') := by
      intro W hW
      have := HCX.out W 0 8 (ps.take s) (HB1.out.trans (hW.mono HB1.out.size)) (by simp; rw [H8.out]; omega) (by simp; rw [H8.out]; omega) (by omega) (fun j p hj => by
        rw [Nat.zero_add]
        rw [List.getElem?_take] at hj
        split at hj
        · exact hj
        · simp at hj)
      rw [List.length_take, H8.out, Nat.min_eq_left hs8] at this
      exact this
    have hsl1 : ∀ W, (Instr.sliceAt 177 (.pointer (some ⟨w.heap.size, 0, none⟩)) none (some (.int .i64 (s : Nat))) none).run Tryz.prog W = .ok (.slice (some ⟨w.heap.size, 0, none⟩) s 8) W := fun W => Tryz.slice8_high w.heap.size s hs8 W
    have hlen1 := tellRow_len (ps.take s)
    have hlen2 := tellRow_len (ps.drop (s + l))
    have hlen3 : (ps.take s).length ≤ 8 := by simp; omega
    have hlen4 : (ps.drop (s + l)).length ≤ 8 := by simp; rw [H8.out]; omega
    obtain ⟨d, hd⟩ : ∃ d, s + l = d := ⟨_, rfl⟩
    obtain ⟨D, hDD⟩ : ∃ D, D = ps.drop d := ⟨_, rfl⟩
    obtain ⟨T, hTT⟩ : ∃ T, T = ps.take s := ⟨_, rfl⟩
    obtain ⟨r, hr⟩ : ∃ r, d + r = 8 := ⟨8 - d, by omega⟩
    rw [hd, ← hDD] at hlen2 hlen4
    rw [← hTT] at HC1 hlen1 hlen3
    have hDl : D.length = r := by rw [hDD, List.length_drop, H8.out]; omega
    have hdi : (s : Int) + (l : Int) = (d : Int) := by omega
    have hdw : IntKind.i64.wrap (d : Int) = (d : Int) := wrap_i64 _ (by omega) (by omega)
    have HFIN : Hid (sixTell ps = tellRow T ++ ([58, 58] ++ tellRow D)) := by
      show _ = _
      rw [HST.out, if_neg hl2, hd, hDD, hTT]
    have hd9 : d ≤ 8 := by omega
    have hll : l ≤ 8 := by omega
    clear hTT hbd hd HST
    by_cases hd8 : d < 8
    · skip
      have HC2 : Hid (∀ W, Below w1.heap.size w1 W → Calls Tryz.prog 196 #[.slice (some ⟨w.heap.size, d, none⟩) r r] W fun e w' => e = .returned (.string ⟨(tellRow D).toArray⟩) ∧ Below W.heap.size W w') := by
        intro W hW
        have := HCX.out W d r D (HB1.out.trans (hW.mono HB1.out.size)) hlen4 (by omega) (by omega) (fun j p hj => by
          rw [hDD, List.getElem?_drop] at hj
          exact hj)
        rw [hDl] at this
        exact this
      have hsl2 : ∀ W, (Instr.sliceAt 177 (.pointer (some ⟨w.heap.size, 0, none⟩)) (some (.int .i64 (d : Nat))) none none).run Tryz.prog W = .ok (.slice (some ⟨w.heap.size, d, none⟩) r r) W := fun W => by
        have := Tryz.slice8_low w.heap.size d hd8 W
        rw [show 8 - d = r by omega] at this
        exact this
      clear hr hDD
      go_wp2_with fail
      go_region_with (first | (go_at_call_of 196 (Value.slice (some ⟨w.heap.size, 0, none⟩) s 8); refine (HC1.out _ (by with_reducible exact (Below.refl _ w1).drew)).mono ?_; rintro e w2 ⟨rfl, hb2⟩) | (go_at_call_of 196 (Value.slice (some ⟨w.heap.size, d, none⟩) r r); refine (HC2.out _ (by exact ((Below.refl _ w1).drew).trans hb2)).mono ?_; rintro e w3 ⟨rfl, hb3⟩))
      all_goals
        go_wp2
        go_ret
        refine ⟨?_, HBW.out.trans ((((Below.refl _ w1).drew).trans (hb2.trans (hb3.mono hb2.size))).mono HBW.out.size)⟩
        rw [HFIN.out]
        show Ending.returned (.string ((⟨(tellRow T).toArray⟩ ++ ⟨#[58, 58]⟩) ++ ⟨(tellRow D).toArray⟩)) = _
        rw [show (⟨#[58, 58]⟩ : ByteArray) = ⟨[58, 58].toArray⟩ from rfl, app_mk, app_mk, List.append_assoc]
    · skip
      have HC2 : Hid (∀ W, Below w1.heap.size w1 W → Calls Tryz.prog 196 #[.slice (some ⟨w.heap.size, 0, none⟩) 0 0] W fun e w' => e = .returned (.string ⟨(tellRow D).toArray⟩) ∧ Below W.heap.size W w') := by
        intro W hW
        have e : D = [] := by rw [hDD]; exact List.drop_eq_nil_of_le (by rw [H8.out]; omega)
        rw [e]
        exact HCX.out W 0 0 [] (HB1.out.trans (hW.mono HB1.out.size)) (by simp) (by simp) (by omega) (fun j p hj => by simp at hj)
      have hsl2 : ∀ W, (Instr.sliceAt 177 (.pointer (some ⟨w.heap.size, 0, none⟩)) (some (.int .i64 (d : Nat))) none none).run Tryz.prog W = .ok (.slice (some ⟨w.heap.size, 0, none⟩) 0 0) W := fun W => by
        rw [show (d : Int) = 8 by omega]
        exact Tryz.slice8_end w.heap.size W
      clear hr hDD
      go_wp2_with fail
      go_region_with (first | (go_at_call_of 196 (Value.slice (some ⟨w.heap.size, 0, none⟩) s 8); refine (HC1.out _ (by with_reducible exact (Below.refl _ w1).drew)).mono ?_; rintro e w2 ⟨rfl, hb2⟩) | (go_at_call_of 196 (Value.slice (some ⟨w.heap.size, 0, none⟩) 0 0); refine (HC2.out _ (by exact ((Below.refl _ w1).drew).trans hb2)).mono ?_; rintro e w3 ⟨rfl, hb3⟩))
      all_goals
        go_wp2
        go_ret
        refine ⟨?_, HBW.out.trans ((((Below.refl _ w1).drew).trans (hb2.trans (hb3.mono hb2.size))).mono HBW.out.size)⟩
        rw [HFIN.out]
        show Ending.returned (.string ((⟨(tellRow T).toArray⟩ ++ ⟨#[58, 58]⟩) ++ ⟨(tellRow D).toArray⟩)) = _
        rw [show (⟨#[58, 58]⟩ : ByteArray) = ⟨[58, 58].toArray⟩ from rfl, app_mk, app_mk, List.append_assoc]
end Go.Proofs
namespace Go.Proofs
open Go.RowKit Go.Moor
set_option maxHeartbeats 2000000 in
set_option maxRecDepth 100000 in
theorem Tryz.tellBracketed_any (s : ByteArray) (w : World) (hs : s.size < 4294967281) (henv : Tryz.Env w) (htz : Tryz.Tz w) :
    Calls Tryz.prog 83 #[.string s] w fun e w' => StrRes (bracketed s.data.toList) e ∧ Below w.heap.size w w' := by
  have hg15 := henv.size
  have HV : Hid (Tryz.Env w) := henv
  have HT : Hid (Tryz.Tz w) := htz
  have hcs := Tryz.strings_CutSuffix s ⟨#[93]⟩ w (by omega)
  rw [show (⟨#[93]⟩ : ByteArray).data.toList = [93] from rfl] at hcs
  by_cases hsuf : Lib.hasSuffix s.data.toList [93] = true
  · rw [hsuf] at hcs
    have HCS : Hid (Calls Tryz.prog 138 #[.string s, .string ⟨#[93]⟩] w fun e w' => e = .returned (.tuple #[.string ⟨(Lib.trimSuffix s.data.toList [93]).toArray⟩, .bool true]) ∧ w' = w) := hcs
    have hBR : bracketed s.data.toList = (match sixOf (Lib.trimSuffix s.data.toList [93]) with | some ps => some ([91] ++ (sixTell (ps.map Int.toNat) ++ [93])) | none => none) := by
      unfold bracketed
      rw [if_pos hsuf]
      rfl
    have htl : (Lib.trimSuffix s.data.toList [93]).length < 4294967281 := by
      unfold Lib.trimSuffix
      rw [if_pos hsuf]
      simp
      omega
    generalize Lib.trimSuffix s.data.toList [93] = I at *
    have HCT : Hid (Calls Tryz.prog 139 #[.string ⟨I.toArray⟩] w fun e w' => Tryz.SixRes (sixOf I) e ∧ Below w.heap.size w w') := Tryz.readIP6_any ⟨I.toArray⟩ w (by rw [size_mk]; exact htl) henv
    clear hcs henv htz hsuf htl
    cases ho : sixOf I with
    | none =>
      rw [ho] at HCT hBR
      rw [hBR]
      clear hBR ho
      go_enter Tryz.func83, Tryz.ntmps83
      go_wp2_with fail
      refine HCS.out.mono ?_
      rintro e w1 ⟨rfl, hw1⟩
      have hw1 := hw1.symm
      subst hw1
      go_wp2_with fail
      refine HCT.out.mono ?_
      rintro e w1 ⟨⟨te, ve, rfl⟩, hb1⟩
      have hw1 := hb1.size
      have HN : Hid ((w1.alloc (.cells (cells8 zero8) 177)).heap[w1.heap.size]? = some (.cells (cells8 zero8) 177 (0, 0))) := heap_alloc_new w1 _
      go_wp2_with (refine wpList_store_row rfl 177 _ _ rfl w1.heap.size (cells8 zero8) rfl rfl 177 (cells8 zero8) HN.out Tryz.size8 rfl (cells8_one _) ?_)
      go_ret2
      exact ⟨⟨_, _, rfl⟩, below_setRow (hb1.alloc hw1 _) hw1 _⟩
    | some ps =>
      have hok := sixOf_ok I ps ho
      have hc8 := cells8_nats ps hok.2
      rw [ho] at HCT hBR
      have HCT2 : Hid (Calls Tryz.prog 139 #[.string ⟨I.toArray⟩] w fun e w' => e = .returned (.tuple #[.agg (nats8 (ps.map Int.toNat)), .nilIface]) ∧ Below w.heap.size w w') := by
        have := HCT.out
        refine this.mono ?_
        rintro e w' ⟨h1, h2⟩
        refine ⟨?_, h2⟩
        rw [← hc8]
        exact h1
      have h8 : (ps.map Int.toNat).length = 8 := by rw [List.length_map]; exact hok.1
      have HPS : Hid (∀ p ∈ ps.map Int.toNat, p < 65536) := by
        intro p hp
        obtain ⟨q, hq, rfl⟩ := List.mem_map.1 hp
        have := hok.2 q hq
        unfold okPiece at this
        omega
      rw [hBR]
      simp only []
      generalize ps.map Int.toNat = ns at *
      have H8 : Hid (ns.length = 8) := h8
      have HSZ : Hid ((Tryz.prog.info? 177).map (·.size) = some (nats8 ns).size) := by
        show _ = _
        rw [nats8_size, h8]; exact Tryz.size8
      have HS8 : Hid ((cells8 zero8).size = (nats8 ns).size) := by
        show _ = _
        rw [nats8_size, h8]; rfl
      have hsl : (sixTell ns).length ≤ 1000 := by
        have h1 := tellRow_len ns
        have h2 := tellRow_len (ns.take (noughts ns 0 0 0 0).1)
        have h3 := tellRow_len (ns.drop ((noughts ns 0 0 0 0).1 + (noughts ns 0 0 0 0).2))
        unfold sixTell
        split
        · omega
        · simp at h2 h3 ⊢
          omega
      clear hBR ho hok hc8 HCT h8
      go_enter Tryz.func83, Tryz.ntmps83
      go_wp2_with fail
      refine HCS.out.mono ?_
      rintro e w1 ⟨rfl, hw1⟩
      have hw1 := hw1.symm
      subst hw1
      go_wp2_with fail
      refine HCT2.out.mono ?_
      rintro e w1 ⟨rfl, hb1⟩
      have hw1 := hb1.size
      have HN : Hid ((w1.alloc (.cells (cells8 zero8) 177)).heap[w1.heap.size]? = some (.cells (cells8 zero8) 177 (0, 0))) := heap_alloc_new w1 _
      have HM : Hid (((w1.alloc (.cells (cells8 zero8) 177)).setRow w1.heap.size (nats8 ns)).heap[w1.heap.size]? = some (.cells (nats8 ns) 177 (0, 0))) := setRow_heap _ _ _ _ _ _ HN.out
      have HBX : Hid (Below w.heap.size w ((w1.alloc (.cells (cells8 zero8) 177)).setRow w1.heap.size (nats8 ns))) := below_setRow (hb1.alloc hw1 _) hw1 _
      have HVX : Hid (Tryz.Env ((w1.alloc (.cells (cells8 zero8) 177)).setRow w1.heap.size (nats8 ns))) := HV.out.below HBX.out
      have HTX : Hid (Tryz.Tz ((w1.alloc (.cells (cells8 zero8) 177)).setRow w1.heap.size (nats8 ns))) := HT.out.below HBX.out (by omega)
      go_wp2_with (first | refine wpList_store_row rfl 177 _ _ rfl w1.heap.size (nats8 ns) rfl rfl 177 (cells8 zero8) HN.out HSZ.out HS8.out (cells8_one _) ?_ | refine wpList_load_row rfl 177 _ rfl w1.heap.size rfl 177 (nats8 ns) (0, 0) _ HM.out Tryz.underlying177 rfl HSZ.out ?_ | fail)
      refine (Tryz.tellIP6_any ns _ H8.out HPS.out HVX.out HTX.out).mono ?_
      rintro e w2 ⟨rfl, hb2⟩
      go_wp2
      go_ret2
      refine ⟨?_, HBX.out.trans (hb2.mono HBX.out.size)⟩
      show Ending.returned (.tuple #[.string ((⟨[91].toArray⟩ ++ ⟨(sixTell ns).toArray⟩) ++ ⟨[93].toArray⟩), .nilIface]) = _
      rw [app_mk, app_mk, List.append_assoc]
      rfl
  · have hsf : Lib.hasSuffix s.data.toList [93] = false := Bool.eq_false_iff.2 hsuf
    rw [hsf] at hcs
    have HCS : Hid (Calls Tryz.prog 138 #[.string s, .string ⟨#[93]⟩] w fun e w' => e = .returned (.tuple #[.string ⟨(Lib.trimSuffix s.data.toList [93]).toArray⟩, .bool false]) ∧ w' = w) := hcs
    have hBR : bracketed s.data.toList = none := by unfold bracketed; rw [if_neg hsuf]
    rw [hBR]
    obtain ⟨te, ve, hce⟩ := henv.eBracket
    clear hcs henv htz hsuf hBR hsf
    go_enter Tryz.func83, Tryz.ntmps83
    go_wp2_with fail
    refine HCS.out.mono ?_
    rintro e w1 ⟨rfl, hw1⟩
    have hw1 := hw1.symm
    subst hw1
    go_wp2
    go_quiet (fail)
    go_wp2
    go_ret2
    exact ⟨⟨_, _, rfl⟩, Go.below_drewN (Below.refl _ _) _⟩
theorem strRes_ret {o : Option (List UInt8)} {e : Ending} (h : StrRes o e) : ∃ a b, e = .returned (.tuple #[a, b]) ∧ StrRes o (.returned (.tuple #[a, b])) := by
  cases o with
  | some l => exact ⟨_, _, h, rfl⟩
  | none => obtain ⟨t, v, h⟩ := h; exact ⟨_, _, h, ⟨t, v, rfl⟩⟩
set_option maxHeartbeats 1000000 in
theorem Tryz.tell_bracket (s : ByteArray) (sp : Bool) (w : World) (hs : s.size < 4294967281) (h1 : 1 ≤ s.size) (hpf : Lib.hasPrefix s.data.toList (⟨#[91]⟩ : ByteArray).data.toList = true) (henv : Tryz.Env w) (htz : Tryz.Tz w) :
    Calls Tryz.prog 55 #[.string s, .bool sp] w fun e w' => StrRes (bracketed (s.data.toList.drop 1)) e ∧ Below w.heap.size w w' := by
  have HP : Hid (Lib.hasPrefix s.data.toList (⟨#[91]⟩ : ByteArray).data.toList = true) := hpf
  have HC : Hid (Calls Tryz.prog 83 #[.string (s.extract 1 s.size)] w fun e w' => StrRes (bracketed (s.data.toList.drop 1)) e ∧ Below w.heap.size w w') := by
    have := Tryz.tellBracketed_any (s.extract 1 s.size) w (by rw [ByteArray.size_extract]; omega) henv htz
    rw [ext_drop s 1] at this
    exact this
  generalize bracketed (s.data.toList.drop 1) = o at *
  clear henv htz hpf
  go_enter Tryz.func55, Tryz.ntmps55
  go_wp2_with (go_at_call 82; refine (Tryz.prefix_yes _ _ _ HP.out).mono ?_; rintro e w' ⟨rfl, rfl⟩)
  refine HC.out.mono ?_
  rintro e w1 ⟨hr, hb1⟩
  obtain ⟨ra, rb, rfl, hr⟩ := strRes_ret hr
  have HR : Hid (StrRes o (.returned (.tuple #[ra, rb]))) := hr
  clear hr
  go_wp2
  go_ret2
  exact ⟨HR.out, hb1⟩
end Go.Proofs
namespace Go.Proofs
open Go.RowKit Go.Moor
theorem any_badP (s : ByteArray) (k : Nat) (h : k < s.size) (hb : badP s[k] = true) : s.data.toList.any badP = true := by
  rw [List.any_eq_true]
  exact ⟨s[k], List.getElem_mem (l := s.data.toList) (n := k) (by simpa using h), hb⟩
theorem any_goodP (s : ByteArray) (h : ∀ (j : Nat) (hj : j < s.size), badP s[j] = false) : s.data.toList.any badP = false := by
  rw [List.any_eq_false]
  intro x hx
  obtain ⟨j, hj, rfl⟩ := List.getElem_of_mem hx
  have : badP s.data.toList[j] = false := h j (by simpa using hj)
  rw [this]; simp
set_option maxHeartbeats 4000000 in
theorem Tryz.tellPlain_any (s : ByteArray) (w : World) (hs : s.size < 4294967281) (henv : Tryz.Env w) :
    Calls Tryz.prog 85 #[.string s] w fun e w' => StrRes (hostPlain s.data.toList) e ∧ Below w.heap.size w w' := by
  have HT : Hid (Calls Tryz.prog 62 #[.string s, .int .i64 0] w fun e w' => e = .returned (.string ⟨(esc 0 s.data.toList).toArray⟩) ∧ Below w.heap.size w w') := Tryz.text_any s 0 w (by omega) henv.sets (by have := henv.size; omega)
  clear henv
  go_enter Tryz.func85, Tryz.ntmps85
  go_wp2_with fail
  go_loop [4] (fun i => ∃ k : Nat, k ≤ s.size ∧ i = .int .i64 k ∧ ∀ (j : Nat) (hj : j < s.size), j < k → badP s[j] = false) (fun i => s.size - (intOf i).toNat)
  case atStart => exact ⟨0, Nat.zero_le _, rfl, fun j hj h => by omega⟩
  case round =>
    obtain ⟨k, hk, rfl, hgood⟩ := hrel
    have HG : Hid (∀ (j : Nat) (hj : j < s.size), j < k → badP s[j] = false) := hgood
    clear hgood
    by_cases hlt : k < s.size
    · by_cases h1 : 0 ≤ Lib.indexByte forbP s[k]
      · have HR : Hid (hostPlain s.data.toList = none) := by
          show _ = _
          unfold hostPlain
          rw [if_pos (any_badP s k hlt (decide_eq_true h1))]
        go_wp2_with (go_at_call 141; refine (Tryz.indexByte_yes _ _ _ h1).mono ?_; rintro e w' ⟨⟨i, hi, rfl⟩, rfl⟩)
        go_quiet (fail)
        go_wp2
        go_ret2
        refine ⟨?_, Go.below_drewN (Below.refl _ _) _⟩
        rw [HR.out]
        exact ⟨_, _, rfl⟩
      · have HG2 : Hid (∀ (j : Nat) (hj : j < s.size), j < k + 1 → badP s[j] = false) := by
          intro j hj h
          by_cases e : j = k
          · subst e; exact decide_eq_false h1
          · exact HG.out j hj (by omega)
        go_wp2_with (go_at_call 141; refine (Tryz.indexByte_no _ _ _ h1).mono ?_; rintro e w' ⟨⟨i, hi, rfl⟩, rfl⟩)
        go_round
        case rel => exact ⟨k + 1, by omega, by go_num, HG2.out⟩
        case measure => simp [intOf]; omega
    · have HR : Hid (hostPlain s.data.toList = some (esc 0 s.data.toList)) := by
        show _ = _
        unfold hostPlain
        rw [any_goodP s (fun j hj => HG.out j hj (by omega))]
        rfl
      clear HG
      go_wp2_with fail
      refine HT.out.mono ?_
      rintro e W1 ⟨rfl, b1⟩
      go_wp2
      go_ret2
      rw [HR.out]
      exact ⟨rfl, b1⟩
set_option maxHeartbeats 1000000 in
theorem Tryz.tell_plain (s : ByteArray) (w : World) (hs : s.size < 4294967281) (hpf : Lib.hasPrefix s.data.toList (⟨#[91]⟩ : ByteArray).data.toList = false) (henv : Tryz.Env w) :
    Calls Tryz.prog 55 #[.string s, .bool false] w fun e w' => StrRes (hostPlain s.data.toList) e ∧ Below w.heap.size w w' := by
  have HP : Hid (Lib.hasPrefix s.data.toList (⟨#[91]⟩ : ByteArray).data.toList = false) := hpf
  have HC : Hid (Calls Tryz.prog 85 #[.string s] w fun e w' => StrRes (hostPlain s.data.toList) e ∧ Below w.heap.size w w') := Tryz.tellPlain_any s w hs henv
  generalize hostPlain s.data.toList = o at *
  clear henv hpf
  go_enter Tryz.func55, Tryz.ntmps55
  go_wp2_with (go_at_call 82; refine (Tryz.prefix_no _ _ _ HP.out).mono ?_; rintro e w' ⟨rfl, rfl⟩)
  refine HC.out.mono ?_
  rintro e w1 ⟨hr, hb1⟩
  obtain ⟨ra, rb, rfl, hr⟩ := strRes_ret hr
  have HR : Hid (StrRes o (.returned (.tuple #[ra, rb]))) := hr
  clear hr
  go_wp2
  go_ret2
  exact ⟨HR.out, hb1⟩
theorem Tryz.tell_any (s : ByteArray) (sp : Bool) (w : World) (hs : s.size < 4294967281) (henv : Tryz.Env w) (htz : Tryz.Tz w) :
    Calls Tryz.prog 55 #[.string s, .bool sp] w fun e w' => StrRes (hostTell s.data.toList sp) e ∧ Below w.heap.size w w' := by
  unfold hostTell
  by_cases hp : Lib.hasPrefix s.data.toList [91] = true
  · rw [if_pos hp]
    refine Tryz.tell_bracket s sp w hs ?_ hp henv htz
    rw [Lib.size_eq]
    cases h : s.data.toList with
    | nil => rw [h] at hp; cases hp
    | cons c r => simp
  · have hp2 : Lib.hasPrefix s.data.toList [91] = false := Bool.eq_false_iff.2 hp
    rw [if_neg hp]
    cases sp with
    | true => exact Tryz.tell_special s w hs hp2 henv
    | false => exact Tryz.tell_plain s w hs hp2 henv
theorem Tryz.Host_any (s : ByteArray) (sp : Bool) (w : World) (hs : s.size ≤ 2000) (henv : Tryz.Env w) (htz : Tryz.Tz w) :
    Calls Tryz.prog 18 #[.string s, .bool sp] w fun e w' => e = HostRes (hostTell s.data.toList sp) ∧ Below w.heap.size w w' :=
  Tryz.Host_of s sp _ w henv hs (Tryz.tell_any s sp w (by omega) henv htz)
end Go.Proofs
namespace Go.Proofs
open Go.RowKit Go.Moor
def strs (l : List Bs) : List Value := l.map fun x => .string ⟨x.toArray⟩
theorem strs_app (a b : List Bs) : strs (a ++ b) = strs a ++ strs b := by simp [strs]
theorem own_shape {w : World} {base : Nat} {e : TypeId} {v : Value} {n : Nat} {xs : List Value} (h : w.ownsRow base e 1 v n xs) : ∃ sp cap, v = .slice sp n cap ∧ n ≤ cap ∧ cap ≤ maxLen ∧ (0 < n → ∃ g, sp = some ⟨g, 0, none⟩ ∧ ∀ j u, xs[j]? = some u → w.cell? ⟨g, j, none⟩ = some u) := by
  rcases h.2 with ⟨rfl, rfl⟩ | ⟨g, cap, cur, rfl, h2, h3, h4, h5, h6, h7⟩
  · exact ⟨none, 0, rfl, Nat.le_refl _, Nat.zero_le _, fun h => absurd h (by omega)⟩
  · obtain ⟨sp, cap', hv, hf⟩ := own_form h
    simp only [Value.slice.injEq] at hv
    obtain ⟨rfl, _, rfl⟩ := hv
    refine ⟨_, cap, rfl, h4, h5, fun hn => ?_⟩
    obtain ⟨g', e1, _, e2⟩ := hf hn
    exact ⟨g', e1, e2⟩
theorem splitOn_count (c : UInt8) : ∀ l : Bs, (splitOn c l).length ≤ l.length + 1
  | [] => by simp [splitOn]
  | b :: l => by
    have ih := splitOn_count c l
    unfold splitOn
    split
    · simp; omega
    · split
      · rename_i x xs h
        rw [h] at ih
        simp at ih ⊢
        omega
      · simp
end Go.Proofs
namespace Go.Proofs
open Go.RowKit Go.Moor
theorem add_zero_at (g j : Nat) : (⟨g, 0, none⟩ : Go.Addr).add j = ⟨g, j, none⟩ := by
  unfold Go.Addr.add
  split
  · rename_i h; rw [h]
  · simp
end Go.Proofs
