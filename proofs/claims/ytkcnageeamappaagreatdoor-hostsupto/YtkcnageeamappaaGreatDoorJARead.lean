/-
  What (marks).read of package address answers.
-/
import Derived.Test.YtkcnageeamappaaGreatDoorJAOpq
namespace Go.Proofs
open Go.RowKit Go.Moor

theorem readCuts_eq (c : Cuts) (ob : Option Adr) : readCuts hostTell c ob = if c.scheme ≠ [] then readMarked hostTell c.scheme c.middle c.query c.frag (sameBase c.scheme ob) else match ob with | none => .error 3 | some b => if b.way.opaq then besideOpaque c b else readMarked hostTell b.scheme c.middle c.query c.frag (some b) := rfl
/-- What is at hand where a result has come and is to be stored. -/
theorem Tryz.fin_store (B : Nat) (w : World) (hB : w.heap.size ≤ B) (res : Except Int Adr) (e : Ending) (w2 : World) (h : Tryz.AdrRes res e w2 ∧ Below w.heap.size w w2 ∧ w2.heap[B]? = some (.cells zeroAdr 77 (0, 0))) : ∃ cs v, e = .returned (.tuple #[.agg cs, v]) ∧ Hid (w2.heap[B]? = some (.cells zeroAdr 77 (0, 0))) ∧ Hid ((Tryz.prog.info? 77).map (·.size) = some cs.size) ∧ Hid (zeroAdr.size = cs.size) ∧ Hid (cs.all (·.oneCell') = true) ∧ Hid (Tryz.AdrRes res (.returned (.tuple #[.agg cs, v])) (w2.setRow B cs) ∧ Below w.heap.size w (w2.setRow B cs)) := by
  obtain ⟨h1, h3, h4⟩ := h
  obtain ⟨cs, v, rfl, h5, h6⟩ := Tryz.adrRes_ret h1
  exact ⟨cs, v, rfl, h4, (by show _ = _; rw [h5]; exact Tryz.sizeAdr), (by show _ = _; rw [h5]; rfl), h6, Tryz.adrRes_setRow h1 _ _ cs h4, below_setRow h3 hB _⟩

theorem split13 (cs : Array Value) (h : cs.size = 13) (h1 : cs.all (·.oneCell') = true) : ∃ c0 c1 c2 c3 c4 c5 c6 c7 c8 c9 c10 c11 c12, cs = #[c0, c1, c2, c3, c4, c5, c6, c7, c8, c9, c10, c11, c12] ∧ c0.oneCell' = true ∧ c1.oneCell' = true ∧ c2.oneCell' = true ∧ c3.oneCell' = true ∧ c4.oneCell' = true ∧ c5.oneCell' = true ∧ c6.oneCell' = true ∧ c7.oneCell' = true ∧ c8.oneCell' = true ∧ c9.oneCell' = true ∧ c10.oneCell' = true ∧ c11.oneCell' = true ∧ c12.oneCell' = true := by
  obtain ⟨l⟩ := cs
  match l, h with
  | [c0, c1, c2, c3, c4, c5, c6, c7, c8, c9, c10, c11, c12], _ =>
    simp at h1
    exact ⟨c0, c1, c2, c3, c4, c5, c6, c7, c8, c9, c10, c11, c12, rfl, h1⟩
theorem but13 (w : World) (g : Nat) (a0 a1 a2 a3 a4 a5 a6 a7 a8 a9 a10 a11 a12 : Value) :
    But g w (((((((((((((w.setCell ⟨g, 0, none⟩ a0).setCell ⟨g, 1, none⟩ a1).setCell ⟨g, 2, none⟩ a2).setCell ⟨g, 3, none⟩ a3).setCell ⟨g, 4, none⟩ a4).setCell ⟨g, 5, none⟩ a5).setCell ⟨g, 6, none⟩ a6).setCell ⟨g, 7, none⟩ a7).setCell ⟨g, 8, none⟩ a8).setCell ⟨g, 9, none⟩ a9).setCell ⟨g, 10, none⟩ a10).setCell ⟨g, 11, none⟩ a11).setCell ⟨g, 12, none⟩ a12) :=
  (((((((((((((But.of_below (Below.refl w.heap.size w)).setCell 0 a0).setCell 1 a1).setCell 2 a2).setCell 3 a3).setCell 4 a4).setCell 5 a5).setCell 6 a6).setCell 7 a7).setCell 8 a8).setCell 9 a9).setCell 10 a10).setCell 11 a11).setCell 12 a12
theorem Tryz.adrRes_but {o : Except Int Adr} {e : Ending} {w' w2 : World} (h : Tryz.AdrRes o e w') (g : Nat) (old : Array Value) (hg : w'.heap[g]? = some (.cells old 77 (0, 0))) (hb : But g w' w2) : Tryz.AdrRes o e w2 := by
  cases o with
  | error n => exact h
  | ok a =>
    obtain ⟨v, rfl, hs⟩ := h
    exact ⟨v, rfl, segRow_but hs hb (tagged_off hs.2 hg (by decide))⟩

set_option maxHeartbeats 8000000 in
theorem Tryz.read_any (c : Cuts) (ob : Option Adr) (bp : Option Go.Addr) (w : World) (hm : c.middle.length ≤ 100000) (hq : (c.query.getD []).length ≤ 100000) (hf : (c.frag.getD []).length ≤ 100000) (hbase : Tryz.BaseAt w bp ob) (henv : Tryz.Env2 w) :
    Calls Tryz.prog 95 #[.agg (cutsCells c), .pointer bp] w fun e w' => Tryz.AdrRes (readCuts hostTell c ob) e w' ∧ Below w.heap.size w w' := by
  obtain ⟨W, hW⟩ : ∃ W, W = (w.alloc (.cells (cutsCells c) 137)).alloc (.cells zeroAdr 77) := ⟨_, rfl⟩
  have hBW : Below w.heap.size w W := by
    rw [hW]
    exact ((Below.refl _ _).alloc (Nat.le_refl _) _).alloc (by simp) _
  have HBW : Hid (Below w.heap.size w W) := hBW
  have hsize : W.heap.size = w.heap.size + 2 := by rw [hW]; simp
  have h2 := two_blocks w (.cells (cutsCells c) 137) (.cells zeroAdr 77)
  rw [← hW] at h2
  have HMK : Hid (W.heap[w.heap.size]? = some (.cells (cutsCells c) 137 (0, 0))) := h2.1
  have HZ : Hid (∀ w1, Below W.heap.size W w1 → w1.heap[w.heap.size + 1]? = some (.cells zeroAdr 77 (0, 0)) ∧ Below w.heap.size w w1) := fun w1 h1 => ⟨(h1.block _ (by omega)).trans h2.2, HBW.out.trans (h1.mono (by omega))⟩
  have HSM : Hid ((Tryz.prog.info? 137).map (·.size) = some (cutsCells c).size) := Tryz.sizeMarks
  have d0 : W.cell? ⟨w.heap.size, 0, none⟩ = some (.string ⟨c.scheme.toArray⟩) := cell_heap h2.1 0
  have HV : Hid (Tryz.Env2 W) := henv.below hBW
  have HBA : Hid (Tryz.BaseAt W bp ob) := hbase.below hBW
  have HFIN : Hid (∀ (res : Except Int Adr) (e : Ending) (w2 : World), Tryz.AdrRes res e w2 ∧ Below w.heap.size w w2 ∧ w2.heap[w.heap.size + 1]? = some (.cells zeroAdr 77 (0, 0)) → _) := fun res e w2 h => Tryz.fin_store (w.heap.size + 1) w (Nat.le_succ _) res e w2 h
  by_cases hs : c.scheme = []
  · have e0 := empty_yes
    rw [hs] at d0
    cases ob with
    | none =>
      have hbp : bp = none := hbase
      subst hbp
      have HE : Hid (readCuts hostTell c none = .error 3) := by show _ = _; rw [readCuts_eq, if_neg (by simp [hs])]
      obtain ⟨te, ve, hee⟩ := HV.out.eBase
      have HN : Hid (W.heap[w.heap.size + 1]? = some (.cells zeroAdr 77 (0, 0))) := h2.2
      generalize cutsCells c = CC at *
      clear hm hq hf hbase henv hBW h2 hs hsize HBA
      go_enter Tryz.func95, Tryz.ntmps95
      go_upto_region 1 with fail
      unfold zeroAdr at hW
      rw [← hW]
      clear hW
      go_wp2_with fail
      refine (Tryz.errRelative_any te ve W).mono ?_
      rintro e w2 ⟨rfl, hw2⟩
      have hw2 := hw2.symm
      subst hw2
      go_wp2_with (refine wpList_store_row rfl 77 _ _ rfl (w.heap.size + 1) zeroAdr rfl rfl 77 zeroAdr HN.out Tryz.sizeAdr rfl zeroAdr_one ?_)
      (try simp only [Exit.inBlock, Exit.then])
      have hld := run_loadVar_row (P := Tryz.prog) (W.setRow (w.heap.size + 1) zeroAdr) (w.heap.size + 1) 77 77 zeroAdr (0, 0) _ (setRow_heap W (w.heap.size + 1) zeroAdr zeroAdr 77 (0, 0) HN.out) Tryz.underlying77 rfl Tryz.sizeAdr
      rw [HE.out]
      refine bodyPost_ret (v := .tuple #[.agg zeroAdr, .iface 96 (.agg #[.int .i64 3, .string ⟨#[115, 99, 104, 101, 109, 101]⟩, .string ⟨#[]⟩, .iface te ve])]) ?_ rfl ⟨⟨_, _, _, _, _, rfl, rfl, zeroAdr_one⟩, below_setRow HBW.out (by omega) _⟩
      rw [results_cell_tmp rfl]
      simp [asAddr, Result.andThen, hld]
    | some b =>
      obtain ⟨kb, bv, rfl, hkb, hsr, hbl, hbx⟩ := HBA.out
      have HKB : Hid (W.heap[kb]? = some (.cells (adrCells b bv) 77 (0, 0))) := hkb
      have hkz : kb < w.heap.size := by
        obtain ⟨kb2, bv2, he, h3, _⟩ := hbase
        injection he with he
        injection he with he _
        subst he
        exact (Array.getElem?_eq_some_iff.1 h3).1
      have k6 : W.cell? ⟨kb, 6, none⟩ = some (.bool b.way.opaq) := cell_heap hkb 6
      have k0 : W.cell? ⟨kb, 0, none⟩ = some (.string ⟨b.scheme.toArray⟩) := cell_heap hkb 0
      cases ho : b.way.opaq with
      | true =>
        have HE : Hid (readCuts hostTell c (some b) = besideOpaque c b) := by
          show _ = _
          rw [readCuts_eq, if_neg (by simp [hs])]
          simp only [ho, if_true]
        have HRO : Hid (∀ w1, Below W.heap.size W w1 → Calls Tryz.prog 156 #[.agg (cutsCells c), .agg (adrCells b bv)] w1 fun e w' => Tryz.AdrRes (besideOpaque c b) e w' ∧ Below w.heap.size w w' ∧ w'.heap[w.heap.size + 1]? = some (.cells zeroAdr 77 (0, 0))) := by
          intro w1 h1
          refine (Tryz.readBesideOpaque_any c b bv w1 hf (segRow_below hsr h1) (HV.out.below h1)).mono ?_
          rintro e w' ⟨hr, hb'⟩
          have h3 := h1.trans (hb'.mono h1.size)
          exact ⟨hr, (HZ.out w' h3).2, (HZ.out w' h3).1⟩
        rw [ho] at k6
        have hAC : ∃ x0 x1 x2 x3 x4 x5 x7 x8 x9 x10 x11 x12, adrCells b bv = #[x0, x1, x2, x3, x4, x5, .bool true, x7, x8, x9, x10, x11, x12] := ⟨_, _, _, _, _, _, _, _, _, _, _, _, by rw [← ho]; rfl⟩
        obtain ⟨x0, x1, x2, x3, x4, x5, x7, x8, x9, x10, x11, x12, hAC⟩ := hAC
        rw [hAC] at HRO hkb
        have hCC : ∃ z1 z2 z3 z4 z5, cutsCells c = #[.string ⟨#[]⟩, z1, z2, z3, z4, z5] := ⟨_, _, _, _, _, by unfold cutsCells; rw [hs]⟩
        obtain ⟨z1, z2, z3, z4, z5, hCC⟩ := hCC
        rw [hCC] at HRO hW
        rw [hCC] at h2
        have m1 : W.cell? ⟨w.heap.size, 1, none⟩ = some z1 := cell_heap h2.1 1
        have m2 : W.cell? ⟨w.heap.size, 2, none⟩ = some z2 := cell_heap h2.1 2
        have m3 : W.cell? ⟨w.heap.size, 3, none⟩ = some z3 := cell_heap h2.1 3
        have m4 : W.cell? ⟨w.heap.size, 4, none⟩ = some z4 := cell_heap h2.1 4
        have m5 : W.cell? ⟨w.heap.size, 5, none⟩ = some z5 := cell_heap h2.1 5
        have y0 : W.cell? ⟨kb, 0, none⟩ = some x0 := cell_heap hkb 0
        have y1 : W.cell? ⟨kb, 1, none⟩ = some x1 := cell_heap hkb 1
        have y2 : W.cell? ⟨kb, 2, none⟩ = some x2 := cell_heap hkb 2
        have y3 : W.cell? ⟨kb, 3, none⟩ = some x3 := cell_heap hkb 3
        have y4 : W.cell? ⟨kb, 4, none⟩ = some x4 := cell_heap hkb 4
        have y5 : W.cell? ⟨kb, 5, none⟩ = some x5 := cell_heap hkb 5
        have y7 : W.cell? ⟨kb, 7, none⟩ = some x7 := cell_heap hkb 7
        have y8 : W.cell? ⟨kb, 8, none⟩ = some x8 := cell_heap hkb 8
        have y9 : W.cell? ⟨kb, 9, none⟩ = some x9 := cell_heap hkb 9
        have y10 : W.cell? ⟨kb, 10, none⟩ = some x10 := cell_heap hkb 10
        have y11 : W.cell? ⟨kb, 11, none⟩ = some x11 := cell_heap hkb 11
        have y12 : W.cell? ⟨kb, 12, none⟩ = some x12 := cell_heap hkb 12
        rw [hCC]
        clear hm hq hf hbase henv hBW h2 hs hsize HBA hkb hsr hbl hbx ho hAC hCC k0
        go_enter Tryz.func95, Tryz.ntmps95
        go_upto_region 1 with fail
        unfold zeroAdr at hW
        rw [← hW]
        clear hW
        go_wp2_with fail
        go_region_with (go_at_call 156; refine Calls.mono (HRO.out _ (by exact same_heap rfl rfl rfl rfl)) ?_; intro e w2 hr; obtain ⟨cs, v, he, hsz, hone⟩ := Tryz.adrRes_ret hr.1; subst he; obtain ⟨c0, c1, c2, c3, c4, c5, c6, c7, c8, c9, c10, c11, c12, rfl, o0, o1, o2, o3, o4, o5, o6, o7, o8, o9, o10, o11, o12⟩ := split13 cs hsz hone; obtain ⟨⟨p0, p1, p2, p3, p4, p5, p6, p7, p8, p9, p10, p11, p12⟩, r0, r1, r2, r3, r4, r5, r6, r7, r8, r9, r10, r11, r12⟩ := cells13 hr.2.2; have HR : Hid (Tryz.AdrRes (besideOpaque c b) (.returned (.tuple #[.agg #[c0, c1, c2, c3, c4, c5, c6, c7, c8, c9, c10, c11, c12], v])) w2 ∧ Below w.heap.size w w2 ∧ w2.heap[w.heap.size + 1]? = some (.cells zeroAdr 77 (0, 0))) := hr; have q0 : ∀ (W : World) (a : Go.Addr) (m : Mode), (store a c0 m).run Tryz.prog W = stored Tryz.prog W a c0 m := fun W a m => run_store Tryz.prog W a c0 m o0; have q1 : ∀ (W : World) (a : Go.Addr) (m : Mode), (store a c1 m).run Tryz.prog W = stored Tryz.prog W a c1 m := fun W a m => run_store Tryz.prog W a c1 m o1; have q2 : ∀ (W : World) (a : Go.Addr) (m : Mode), (store a c2 m).run Tryz.prog W = stored Tryz.prog W a c2 m := fun W a m => run_store Tryz.prog W a c2 m o2; have q3 : ∀ (W : World) (a : Go.Addr) (m : Mode), (store a c3 m).run Tryz.prog W = stored Tryz.prog W a c3 m := fun W a m => run_store Tryz.prog W a c3 m o3; have q4 : ∀ (W : World) (a : Go.Addr) (m : Mode), (store a c4 m).run Tryz.prog W = stored Tryz.prog W a c4 m := fun W a m => run_store Tryz.prog W a c4 m o4; have q5 : ∀ (W : World) (a : Go.Addr) (m : Mode), (store a c5 m).run Tryz.prog W = stored Tryz.prog W a c5 m := fun W a m => run_store Tryz.prog W a c5 m o5; have q6 : ∀ (W : World) (a : Go.Addr) (m : Mode), (store a c6 m).run Tryz.prog W = stored Tryz.prog W a c6 m := fun W a m => run_store Tryz.prog W a c6 m o6; have q7 : ∀ (W : World) (a : Go.Addr) (m : Mode), (store a c7 m).run Tryz.prog W = stored Tryz.prog W a c7 m := fun W a m => run_store Tryz.prog W a c7 m o7; have q8 : ∀ (W : World) (a : Go.Addr) (m : Mode), (store a c8 m).run Tryz.prog W = stored Tryz.prog W a c8 m := fun W a m => run_store Tryz.prog W a c8 m o8; have q9 : ∀ (W : World) (a : Go.Addr) (m : Mode), (store a c9 m).run Tryz.prog W = stored Tryz.prog W a c9 m := fun W a m => run_store Tryz.prog W a c9 m o9; have q10 : ∀ (W : World) (a : Go.Addr) (m : Mode), (store a c10 m).run Tryz.prog W = stored Tryz.prog W a c10 m := fun W a m => run_store Tryz.prog W a c10 m o10; have q11 : ∀ (W : World) (a : Go.Addr) (m : Mode), (store a c11 m).run Tryz.prog W = stored Tryz.prog W a c11 m := fun W a m => run_store Tryz.prog W a c11 m o11; have q12 : ∀ (W : World) (a : Go.Addr) (m : Mode), (store a c12 m).run Tryz.prog W = stored Tryz.prog W a c12 m := fun W a m => run_store Tryz.prog W a c12 m o12; clear hr hsz hone o0 o1 o2 o3 o4 o5 o6 o7 o8 o9 o10 o11 o12)
        all_goals
          go_wp2
          have hld := run_loadVar_row (P := Tryz.prog) _ (w.heap.size + 1) 77 77 #[c0, c1, c2, c3, c4, c5, c6, c7, c8, c9, c10, c11, c12] (0, 0) _ (set13 HR.out.2.2 c0 c1 c2 c3 c4 c5 c6 c7 c8 c9 c10 c11 c12) Tryz.underlying77 rfl Tryz.sizeAdr
          have hbu := but13 w2 (w.heap.size + 1) c0 c1 c2 c3 c4 c5 c6 c7 c8 c9 c10 c11 c12
          rw [HE.out]
          refine bodyPost_ret (v := .tuple #[.agg #[c0, c1, c2, c3, c4, c5, c6, c7, c8, c9, c10, c11, c12], v]) ?_ rfl ⟨Tryz.adrRes_but HR.out.1 _ _ HR.out.2.2 hbu, HR.out.2.1.trans ((hbu.below (by have := HR.out.2.1.size; have := (Array.getElem?_eq_some_iff.1 HR.out.2.2).1; omega)).mono (Nat.le_succ _))⟩
          rw [results_cell_tmp rfl]
          simp [asAddr, Result.andThen, hld, Act.put]
      | false =>
        have HE : Hid (readCuts hostTell c (some b) = readMarked hostTell b.scheme c.middle c.query c.frag (some b)) := by
          show _ = _
          rw [readCuts_eq, if_neg (by simp [hs])]
          simp only [ho, Bool.false_eq_true, if_false]
        obtain ⟨V, hV⟩ : ∃ V, V = W.setCell ⟨w.heap.size, 0, none⟩ (.string ⟨b.scheme.toArray⟩) := ⟨_, rfl⟩
        have hbu : But w.heap.size W V := by rw [hV]; exact (But.of_below (Below.refl _ _)).setCell 0 _
        have hVm : V.heap[w.heap.size]? = some (.cells (cutsCells ⟨b.scheme, c.middle, c.query, c.frag⟩) 137 (0, 0)) := by
          rw [hV]
          exact heap_setCell_same W w.heap.size 0 _ 137 (.string ⟨b.scheme.toArray⟩) h2.1
        have hVr : V.heap[w.heap.size + 1]? = some (.cells zeroAdr 77 (0, 0)) := (hbu.block (w.heap.size + 1) (by omega) (by omega)).trans h2.2
        have hVB : Below w.heap.size w V := HBW.out.trans (hbu.below (by omega))
        have hVA : Tryz.BaseAt V (some ⟨kb, 0, none⟩) (some b) := (show Tryz.BaseAt w (some ⟨kb, 0, none⟩) (some b) from hbase).below hVB
        have HRM : Hid (Calls Tryz.prog 157 #[.agg (cutsCells ⟨b.scheme, c.middle, c.query, c.frag⟩), .pointer (some ⟨kb, 0, none⟩)] V fun e w' => Tryz.AdrRes (readMarked hostTell b.scheme c.middle c.query c.frag (some b)) e w' ∧ Below w.heap.size w w' ∧ w'.heap[w.heap.size + 1]? = some (.cells zeroAdr 77 (0, 0))) := by
          refine (Tryz.readMarked_any ⟨b.scheme, c.middle, c.query, c.frag⟩ (some b) (some ⟨kb, 0, none⟩) V hm hq hf (fun k hk => hVA.ok k hk) (henv.below hVB)).mono ?_
          rintro e w' ⟨hr, hb'⟩
          exact ⟨hr, hVB.trans (hb'.mono hVB.size), (hb'.block _ (Array.getElem?_eq_some_iff.1 hVr).1).trans hVr⟩
        have HMV : Hid (V.heap[w.heap.size]? = some (.cells (cutsCells ⟨b.scheme, c.middle, c.query, c.frag⟩) 137 (0, 0))) := hVm
        have HSM2 : Hid ((Tryz.prog.info? 137).map (·.size) = some (cutsCells ⟨b.scheme, c.middle, c.query, c.frag⟩).size) := Tryz.sizeMarks
        have HVE : Hid (V = W.setCell ⟨w.heap.size, 0, none⟩ (.string ⟨b.scheme.toArray⟩)) := hV
        have f0 := frozen_heap h2.1 0
        rw [ho] at k6
        obtain ⟨s, hsd⟩ : ∃ s : ByteArray, s = ⟨b.scheme.toArray⟩ := ⟨_, rfl⟩
        rw [← hsd] at k0 HVE
        generalize cutsCells c = CC at *
        generalize cutsCells ⟨b.scheme, c.middle, c.query, c.frag⟩ = C2 at *
        have hkn : kb ≠ w.heap.size := by omega
        have hkn2 : w.heap.size ≠ kb := by omega
        clear hm hq hf hbase henv hBW h2 hs hsize HBA hkb hsr hbl hbx ho hV hbu hVm hVr hVB hVA hsd
        go_enter Tryz.func95, Tryz.ntmps95
        go_upto_region 1 with fail
        unfold zeroAdr at hW
        rw [← hW]
        clear hW
        go_upto_region 8 with fail
        rw [← HVE.out]
        clear HVE
        go_wp2_with (refine wpList_load_row rfl 137 _ rfl w.heap.size rfl 137 C2 (0, 0) _ HMV.out Tryz.underlying137 rfl HSM2.out ?_)
        refine Calls.mono HRM.out ?_
        intro e w2 hr
        obtain ⟨cs, v, rfl, HN, HZS, HZO, HON, HF⟩ := HFIN.out _ e w2 hr
        clear hr
        go_wp2_with (refine wpList_store_row rfl 77 _ _ rfl (w.heap.size + 1) cs rfl rfl 77 zeroAdr HN.out HZS.out HZO.out HON.out ?_)
        (try simp only [Exit.inBlock, Exit.then])
        have hld := run_loadVar_row (P := Tryz.prog) (w2.setRow (w.heap.size + 1) cs) (w.heap.size + 1) 77 77 cs (0, 0) _ (setRow_heap w2 (w.heap.size + 1) zeroAdr cs 77 (0, 0) HN.out) Tryz.underlying77 rfl HZS.out
        rw [HE.out]
        refine bodyPost_ret (v := .tuple #[.agg cs, v]) ?_ rfl HF.out
        rw [results_cell_tmp rfl]
        simp [asAddr, Result.andThen, hld]
  · have HE : Hid (readCuts hostTell c ob = readMarked hostTell c.scheme c.middle c.query c.frag (sameBase c.scheme ob)) := by show _ = _; rw [readCuts_eq, if_pos hs]
    have e0 := empty_no _ hs
    have HRN : Hid (Calls Tryz.prog 154 #[.agg (cutsCells c), .pointer bp] W fun e w' => Tryz.AdrRes (readMarked hostTell c.scheme c.middle c.query c.frag (sameBase c.scheme ob)) e w' ∧ Below w.heap.size w w' ∧ w'.heap[w.heap.size + 1]? = some (.cells zeroAdr 77 (0, 0))) := by
      refine (Tryz.readAsNamed_any c ob bp W hm hq hf HBA.out HV.out).mono ?_
      rintro e w' ⟨hr, hb'⟩
      exact ⟨hr, (HZ.out w' hb').2, (HZ.out w' hb').1⟩
    obtain ⟨s, hsd⟩ : ∃ s : ByteArray, s = ⟨c.scheme.toArray⟩ := ⟨_, rfl⟩
    rw [← hsd] at d0 e0
    generalize cutsCells c = CC at *
    clear hm hq hf hbase henv hBW h2 hs hsize HBA hsd
    go_enter Tryz.func95, Tryz.ntmps95
    go_upto_region 1 with fail
    unfold zeroAdr at hW
    rw [← hW]
    clear hW
    go_wp2_with (refine wpList_load_row rfl 137 _ rfl w.heap.size rfl 137 CC (0, 0) _ HMK.out Tryz.underlying137 rfl HSM.out ?_)
    refine Calls.mono HRN.out ?_
    intro e w2 hr
    obtain ⟨cs, v, rfl, HN, HZS, HZO, HON, HF⟩ := HFIN.out _ e w2 hr
    clear hr
    go_wp2_with (refine wpList_store_row rfl 77 _ _ rfl (w.heap.size + 1) cs rfl rfl 77 zeroAdr HN.out HZS.out HZO.out HON.out ?_)
    (try simp only [Exit.inBlock, Exit.then])
    have hld := run_loadVar_row (P := Tryz.prog) (w2.setRow (w.heap.size + 1) cs) (w.heap.size + 1) 77 77 cs (0, 0) _ (setRow_heap w2 (w.heap.size + 1) zeroAdr cs 77 (0, 0) HN.out) Tryz.underlying77 rfl HZS.out
    rw [HE.out]
    refine bodyPost_ret (v := .tuple #[.agg cs, v]) ?_ rfl HF.out
    rw [results_cell_tmp rfl]
    simp [asAddr, Result.andThen, hld]
end Go.Proofs
