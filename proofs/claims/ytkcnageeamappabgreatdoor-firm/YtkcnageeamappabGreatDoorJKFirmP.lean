/-
  What Split of package moor answers of an address.
-/
import Derived.Test.YtkcnageeamappabGreatDoorJAParts
import Derived.Test.YtkcnageeamappabGreatDoorJAAlone
import Derived.Test.YtkcnageeamappabGreatDoorJABound
import Derived.Test.YtkcnageeamappabGreatDoorJAWith4
import Derived.Test.YtkcnageeamappabGreatDoorJLaid3
import Derived.Test.YtkcnageeamappabGreatDoorJLaid2
import Derived.Deep.DeepCutAuto
import Derived.Test.YtkcnageeamappabGreatDoorJSFmt
import Derived.Test.YtkcnageeamappabGreatDoorJEnv
namespace Go.Proofs
open Go.RowKit Go.Moor

theorem partCells_one (a : Adr) : (partCells a).all (·.oneCell') = true := by unfold partCells; simp [Value.oneCell']
theorem alone_small (t : Bs) (a : Adr) (h : alone t = .ok a) : Small 1000000 1000000 a := by
  unfold alone at h
  split at h
  · cases h
  · have hs := readAddr_small t none 20000 0 a (by omega) (by simp) h
    exact ⟨by have := hs.scheme; omega, by have := hs.user; omega, by have := hs.pass; omega, by have := hs.host; omega, hs.port, by have := hs.text; omega, by have := hs.count; omega, fun x hx => by have := hs.segs x hx; omega, by have := hs.query; omega, by have := hs.frag; omega⟩

set_option maxHeartbeats 8000000 in
set_option maxRecDepth 8000 in
theorem Tryz.Split_ok (t : Bs) (a : Adr) (w : World) (ho : alone t = .ok a) (ht : t.length ≤ maxLen) (henv : Tryz.Env2 w) :
    Calls Tryz.prog 6 #[.string ⟨t.toArray⟩] w fun e w' => e = .returned (.tuple #[.agg (partCells a), .int .i64 0]) ∧ Below w.heap.size w w' := by
  obtain ⟨W, hW⟩ : ∃ W, W = w.alloc (.cells zeroParts 28) := ⟨_, rfl⟩
  have hBW : Below w.heap.size w W := by
    rw [hW]
    exact (Below.refl _ _).alloc (Nat.le_refl _) _
  have HBW : Hid (Below w.heap.size w W) := hBW
  have hsize : W.heap.size = w.heap.size + 1 := by rw [hW]; simp
  have hz0 : W.heap[w.heap.size]? = some (.cells zeroParts 28 (0, 0)) := by rw [hW]; exact alloc_here w _ _
  have HZ : Hid (∀ w1, Below W.heap.size W w1 → w1.heap[w.heap.size]? = some (.cells zeroParts 28 (0, 0))) := fun w1 h1 => (h1.block w.heap.size (by omega)).trans hz0
  have HR : Hid (Calls Tryz.prog 14 #[.string ⟨t.toArray⟩] W fun e w' => (∃ v, e = .returned (.tuple #[.agg (adrCells a v), .int .i64 0]) ∧ SegRow w' v a.way.segs) ∧ Below W.heap.size W w') := by
    have := Tryz.readAlone_any t W ht (henv.below hBW)
    rw [ho] at this
    exact this
  have HSM : Hid (Small 1000000 1000000 a) := alone_small t a ho
  clear ht henv hBW hz0 ho
  go_enter Tryz.func6, Tryz.ntmps6
  go_upto_region 1 with fail
  unfold zeroParts at hW
  rw [← hW]
  clear hW
  go_wp2_with fail
  refine Calls.mono HR.out ?_
  rintro e w2 ⟨⟨v, rfl, hsr⟩, b2⟩
  have hv1 : (adrCells a v).all (·.oneCell') = true := by
    obtain ⟨⟨sp, cap, rfl, _⟩, _⟩ := hsr
    exact adrCells_one _ _ rfl
  obtain ⟨V, hV⟩ : ∃ V, V = (w2.alloc (.cells zeroAdr 52)).setRow w2.heap.size (adrCells a v) := ⟨_, rfl⟩
  have HN : Hid ((w2.alloc (.cells zeroAdr 52)).heap[w2.heap.size]? = some (.cells zeroAdr 52 (0, 0))) := alloc_here w2 _ _
  have hVc : V.heap[w2.heap.size]? = some (.cells (adrCells a v) 52 (0, 0)) := by
    rw [hV]
    exact setRow_here HN.out _
  have hVB : Below w2.heap.size w2 V := by
    rw [hV]
    exact below_setRow ((Below.refl _ _).alloc (Nat.le_refl _) _) (Nat.le_refl _) _
  have HVB : Hid (Below W.heap.size W V) := b2.trans (hVB.mono b2.size)
  have HP : Hid (Calls Tryz.prog 15 #[.agg (adrCells a v)] V fun e w' => e = .returned (.agg (partCells a)) ∧ Below V.heap.size V w') := Tryz.Parts_any a v V (segRow_below hsr hVB) HSM.out
  have HZS : Hid ((Tryz.prog.info? 52).map (·.size) = some (adrCells a v).size) := Tryz.sizeAdr
  have HON : Hid ((adrCells a v).all (·.oneCell') = true) := hv1
  have HZO : Hid (zeroAdr.size = (adrCells a v).size) := (rfl : zeroAdr.size = (adrCells a v).size)
  have HVC : Hid (((w2.alloc (.cells zeroAdr 52)).setRow w2.heap.size (adrCells a v)).heap[w2.heap.size]? = some (.cells (adrCells a v) 52 (0, 0))) := by show _ = _; rw [← hV]; exact hVc
  have HVE : Hid (V = (w2.alloc (.cells zeroAdr 52)).setRow w2.heap.size (adrCells a v)) := hV
  have HPZ : Hid ((Tryz.prog.info? 28).map (·.size) = some (partCells a).size) := Tryz.sizeParts
  have HPO : Hid ((partCells a).all (·.oneCell') = true) := partCells_one a
  have HPS : Hid (zeroParts.size = (partCells a).size) := (rfl : zeroParts.size = (partCells a).size)
  clear hsr b2 hVc hVB hv1 hV
  generalize adrCells a v = cs at *
  obtain ⟨pc, hpc⟩ : ∃ pc, pc = partCells a := ⟨_, rfl⟩
  rw [← hpc] at HP HPZ HPO HPS
  have HPC : Hid (pc = partCells a) := hpc
  clear hpc
  go_wp2_with (first | refine wpList_store_row rfl 52 _ _ rfl w2.heap.size cs rfl rfl 52 zeroAdr HN.out HZS.out HZO.out HON.out ?_ | refine wpList_load_row rfl 52 _ rfl w2.heap.size rfl 52 cs (0, 0) _ HVC.out Tryz.underlying52 rfl HZS.out ?_)
  have hve := HVE.out
  unfold zeroAdr at hve
  rw [← hve]
  clear hve HVE
  refine Calls.mono HP.out ?_
  rintro e w3 ⟨rfl, b3⟩
  have HB3 : Hid (Below W.heap.size W w3) := HVB.out.trans (b3.mono HVB.out.size)
  have HZ3 : Hid (w3.heap[w.heap.size]? = some (.cells zeroParts 28 (0, 0))) := HZ.out w3 HB3.out
  clear b3
  go_wp2_with (refine wpList_store_row rfl 28 _ _ rfl w.heap.size pc rfl rfl 28 zeroParts HZ3.out HPZ.out HPS.out HPO.out ?_)
  have hld := run_loadVar_row (P := Tryz.prog) _ w.heap.size 28 28 pc (0, 0) _ (setRow_here HZ3.out pc) Tryz.underlying28 rfl HPZ.out
  refine bodyPost_ret (v := .tuple #[.agg pc, .int .i64 0]) ?_ rfl ⟨by rw [HPC.out], below_setRow (HBW.out.trans (HB3.out.mono (by omega))) (Nat.le_refl _) _⟩
  rw [results_cell_tmp rfl]
  simp [asAddr, Result.andThen, hld]
end Go.Proofs
/-
  What Address.With of package address answers.
-/
namespace Go.Proofs
open Go.RowKit Go.Moor

theorem but_setRow (w : World) (k : Nat) (cs : Array Value) : But k w (w.setRow k cs) := by
  refine ⟨rfl, rfl, rfl, by simp [World.setRow], fun j hj hn => ?_⟩
  exact setRow_other _ _ _ _ hn

set_option maxHeartbeats 8000000 in
set_option maxRecDepth 8000 in
theorem Tryz.AWith_any (a : Adr) (v : Value) (p : Int) (t : Bs) (w : World) (ht : t.length ≤ 100000) (hp1 : -9223372036854775808 ≤ p) (hp2 : p ≤ 9223372036854775807) (hv : SegRow w v a.way.segs) (hs : Small 1000000 1000000 a) (henv : Tryz.Env3 w) :
    Calls Tryz.prog 19 #[.agg (adrCells a v), .int .i64 p, .string ⟨t.toArray⟩] w fun e w' => Tryz.AnyRes (setPart hostTell a p (bareB t)) e w' ∧ Below w.heap.size w w' := by
  have hone : (adrCells a v).all (·.oneCell') = true := by
    obtain ⟨⟨sp, cap, rfl, _⟩, _⟩ := hv
    exact adrCells_one _ _ rfl
  obtain ⟨W, hW⟩ : ∃ W, W = (w.alloc (.cells (adrCells a v) 52)).alloc (.cells zeroAdr 52) := ⟨_, rfl⟩
  have hBW : Below w.heap.size w W := by
    rw [hW]
    exact ((Below.refl _ _).alloc (Nat.le_refl _) _).alloc (by simp) _
  have h2 := two_blocks w (.cells (adrCells a v) 52) (.cells zeroAdr 52)
  rw [← hW] at h2
  have hsize : W.heap.size = w.heap.size + 2 := by rw [hW]; simp
  obtain ⟨V, hV⟩ : ∃ V, V = (W.alloc (.cells zeroAdr 52)).setRow W.heap.size (adrCells a v) := ⟨_, rfl⟩
  have HN : Hid ((W.alloc (.cells zeroAdr 52)).heap[W.heap.size]? = some (.cells zeroAdr 52 (0, 0))) := alloc_here W _ _
  have hVc : V.heap[W.heap.size]? = some (.cells (adrCells a v) 52 (0, 0)) := by
    rw [hV]
    exact setRow_here HN.out _
  have hVB : Below W.heap.size W V := by
    rw [hV]
    exact below_setRow ((Below.refl _ _).alloc (Nat.le_refl _) _) (Nat.le_refl _) _
  have hVs : V.heap.size = w.heap.size + 3 := by rw [hV]; simp [World.setRow, hsize]
  have hBV : Below w.heap.size w V := hBW.trans (hVB.mono (by omega))
  have HWB : Hid (∀ w1, Below V.heap.size V w1 → Calls Tryz.prog 33 #[.string ⟨t.toArray⟩] w1 fun e w' => e = .returned (.string ⟨(bareB t).toArray⟩) ∧ Below V.heap.size V w') := by
    intro w1 h1
    refine (Tryz.withoutBreaks_any t w1 (by omega) ((henv.below hBV).below h1).env2.env).mono ?_
    rintro e w' ⟨rfl, hb⟩
    exact ⟨rfl, h1.trans (hb.mono h1.size)⟩
  have hbl : (bareB t).length ≤ 100000 := Nat.le_trans (List.length_filter_le _ _) ht
  have HST : Hid (∀ w1, Below V.heap.size V w1 → Calls Tryz.prog 32 #[.pointer (some ⟨W.heap.size, 0, none⟩), .int .i64 p, .string ⟨(bareB t).toArray⟩] w1 fun e w' => (But W.heap.size V w' ∧ Tryz.SetRes W.heap.size (setPart hostTell a p (bareB t)) e w')) := by
    intro w1 h1
    refine (Tryz.set_any W.heap.size a v p (bareB t) w1 hbl hp1 hp2 ((h1.block _ (by omega)).trans hVc) (segRow_below (segRow_below hv hBV) h1) ((henv.below hBV).below h1)).mono ?_
    rintro e w' ⟨hb, hr⟩
    exact ⟨(But.of_below h1).trans hb, hr⟩
  have HBL : Hid (∀ w1, But W.heap.size V w1 → Below w.heap.size w w1) := fun w1 h1 => hBV.trans ((h1.below (by omega)).mono (by omega))
  have HC0 : Hid (∀ w1, But W.heap.size V w1 → w1.heap[w.heap.size]? = some (.cells (adrCells a v) 52 (0, 0))) := fun w1 h1 => ((h1.block w.heap.size (by omega) (by omega)).trans (hVB.block _ (by omega))).trans h2.1
  have HC1 : Hid (∀ w1, But W.heap.size V w1 → w1.heap[w.heap.size + 1]? = some (.cells zeroAdr 52 (0, 0))) := fun w1 h1 => ((h1.block (w.heap.size + 1) (by omega) (by omega)).trans (hVB.block _ (by omega))).trans h2.2
  have HTE : Hid (∀ w1, But W.heap.size V w1 → Calls Tryz.prog 31 #[.agg (adrCells a v)] w1 fun e w' => e = .returned (.string ⟨(tellAddr a).toArray⟩) ∧ But W.heap.size V w') := by
    intro w1 h1
    have hbl := HBL.out w1 h1
    refine (Tryz.Tell_any' a v w1 (segRow_below hv hbl) hs (henv.env2.below hbl)).mono ?_
    rintro e w' ⟨rfl, hb⟩
    exact ⟨rfl, h1.trans (But.of_below hb)⟩
  have HW : Hid (W = (w.alloc (.cells (adrCells a v) 52)).alloc (.cells zeroAdr 52)) := hW
  have HV : Hid (V = (W.alloc (.cells zeroAdr 52)).setRow W.heap.size (adrCells a v)) := hV
  have HWC : Hid (W.heap[w.heap.size]? = some (.cells (adrCells a v) 52 (0, 0))) := h2.1
  have HSZ : Hid (W.heap.size = w.heap.size + 2) := hsize
  generalize hcs : adrCells a v = cs at *
  have hcz : cs.size = 13 := by rw [← hcs]; rfl
  have HZS : Hid ((Tryz.prog.info? 52).map (·.size) = some cs.size) := by show _ = _; rw [hcz]; exact Tryz.sizeAdr
  have HZO : Hid (zeroAdr.size = cs.size) := by show _ = _; rw [hcz]; rfl
  have HON : Hid (cs.all (·.oneCell') = true) := hone
  generalize setPart hostTell a p (bareB t) = o at *
  generalize (⟨(bareB t).toArray⟩ : ByteArray) = bt at *
  generalize (⟨(tellAddr a).toArray⟩ : ByteArray) = ta at *
  generalize (⟨t.toArray⟩ : ByteArray) = tb at *
  clear ht hp1 hp2 hv hs henv hone hW hBW h2 hsize hV hVc hVB hVs hBV hbl hcs hcz
  have HWA : Hid ((w.alloc (.cells cs 52)).alloc (.cells zeroAdr 52) = W) := HW.out.symm
  have HWL : Hid ((W.alloc (.cells zeroAdr 52)).heap[w.heap.size]? = some (.cells cs 52 (0, 0))) := (heap_alloc_lt _ _ w.heap.size (by have := HSZ.out; omega)).trans HWC.out
  go_enter Tryz.func19, Tryz.ntmps19
  go_upto_region 1 with fail
  have hw := HWA.out
  unfold zeroAdr at hw
  rw [hw]
  clear hw HW HWA
  go_upto_region 2 with (first | refine wpList_load_row rfl 52 _ rfl w.heap.size rfl 52 cs (0, 0) _ HWC.out Tryz.underlying52 rfl HZS.out ?_ | refine wpList_store_row rfl 52 _ _ rfl W.heap.size cs rfl rfl 52 zeroAdr HN.out HZS.out HZO.out HON.out ?_)
  have hve := HV.out
  unfold zeroAdr at hve
  rw [← hve]
  clear hve HV HN
  go_wp2_with fail
  refine Calls.mono (HWB.out V (Below.refl _ _)) ?_
  rintro e w1 ⟨rfl, b1⟩
  go_wp2_with fail
  refine Calls.mono (HST.out w1 b1) ?_
  rintro e w2 ⟨b2, hr⟩
  have HB2 : Hid (But W.heap.size V w2) := b2
  clear b1 b2
  cases o with
  | error n =>
    obtain ⟨x, y, te, ve, rfl⟩ := hr
    have HL : Hid (w2.heap[w.heap.size]? = some (.cells cs 52 (0, 0))) := HC0.out w2 HB2.out
    go_upto_region 4 with fail
    go_wp2_with (first | refine wpList_load_row rfl 52 _ rfl w.heap.size rfl 52 cs (0, 0) _ HL.out Tryz.underlying52 rfl HZS.out ?_)
    refine Calls.mono (HTE.out w2 HB2.out) ?_
    rintro e w3 ⟨rfl, b3⟩
    have HB3 : Hid (But W.heap.size V w3) := b3
    have HZ3 : Hid (w3.heap[w.heap.size + 1]? = some (.cells zeroAdr 52 (0, 0))) := HC1.out w3 b3
    clear b3
    go_wp2_with (first | refine wpList_store_row rfl 52 _ _ rfl (w.heap.size + 1) zeroAdr rfl rfl 52 zeroAdr HZ3.out Tryz.sizeAdr rfl zeroAdr_one ?_)
    (try simp only [Exit.inBlock, Exit.then])
    have hld := run_loadVar_row (P := Tryz.prog) (w3.setRow (w.heap.size + 1) zeroAdr) (w.heap.size + 1) 52 52 zeroAdr (0, 0) _ (setRow_heap _ (w.heap.size + 1) zeroAdr zeroAdr 52 (0, 0) HZ3.out) Tryz.underlying52 rfl Tryz.sizeAdr
    refine bodyPost_ret (v := .tuple #[.agg zeroAdr, .iface 75 (.agg #[.string ta, .iface 77 (.agg #[.int .i64 n, .string x, .string y, .iface te ve])])]) ?_ rfl ⟨⟨_, rfl, Or.inr ⟨ta, x, y, te, ve, rfl⟩⟩, below_setRow (HBL.out w3 HB3.out) (Nat.le_succ _) _⟩
    rw [results_cell_tmp rfl]
    simp only [zeroAdr] at hld
    simp [asAddr, Result.andThen, hld, zeroAdr]
  | ok b =>
    obtain ⟨he, u, hu, hsr⟩ := hr
    subst he
    have hone2 : (adrCells b u).all (·.oneCell') = true := by
      obtain ⟨⟨sp, cap, rfl, _⟩, _⟩ := hsr
      exact adrCells_one _ _ rfl
    have HZ2 : Hid (w2.heap[w.heap.size + 1]? = some (.cells zeroAdr 52 (0, 0))) := HC1.out w2 HB2.out
    have HFIN : Hid (Tryz.AnyRes (.ok b) (.returned (.tuple #[.agg (adrCells b u), .nilIface])) (w2.setRow (w.heap.size + 1) (adrCells b u)) ∧ Below w.heap.size w (w2.setRow (w.heap.size + 1) (adrCells b u))) := ⟨⟨u, rfl, segRow_but hsr (but_setRow w2 (w.heap.size + 1) _) (tagged_off hsr.2 HZ2.out (by decide))⟩, below_setRow (HBL.out w2 HB2.out) (Nat.le_succ _) _⟩
    generalize hds : adrCells b u = ds at *
    have hdz : ds.size = 13 := by rw [← hds]; rfl
    have HU : Hid (w2.heap[W.heap.size]? = some (.cells ds 52 (0, 0))) := hu
    have HDS : Hid ((Tryz.prog.info? 52).map (·.size) = some ds.size) := by show _ = _; rw [hdz]; exact Tryz.sizeAdr
    have HDO : Hid (zeroAdr.size = ds.size) := by show _ = _; rw [hdz]; rfl
    have HDN : Hid (ds.all (·.oneCell') = true) := hone2
    clear hu hsr hone2 hds hdz
    go_upto_region 5 with fail
    go_wp2_with (first | refine wpList_load_row rfl 52 _ rfl W.heap.size rfl 52 ds (0, 0) _ HU.out Tryz.underlying52 rfl HDS.out ?_ | refine wpList_store_row rfl 52 _ _ rfl (w.heap.size + 1) ds rfl rfl 52 zeroAdr HZ2.out HDS.out HDO.out HDN.out ?_)
    (try simp only [Exit.inBlock, Exit.then])
    have hld := run_loadVar_row (P := Tryz.prog) (w2.setRow (w.heap.size + 1) ds) (w.heap.size + 1) 52 52 ds (0, 0) _ (setRow_heap _ (w.heap.size + 1) zeroAdr ds 52 (0, 0) HZ2.out) Tryz.underlying52 rfl HDS.out
    refine bodyPost_ret (v := .tuple #[.agg ds, .nilIface]) ?_ rfl HFIN.out
    rw [results_cell_tmp rfl]
    simp [asAddr, Result.andThen, hld]
end Go.Proofs
/-
  What With of package moor answers.
-/
namespace Go.Proofs
open Go.RowKit Go.Moor

theorem alone_is' (t : Bs) : alone t = readAlone hostTell t := rfl
theorem withPart_told {t v : Bs} {p : Int} {a : Adr} (hl : v.length ≤ 2000) (h : alone t = .ok a) : withPart hostTell t p v = told (setPart hostTell a p (bareB v)) := by
  unfold withPart
  rw [if_neg (by omega), ← alone_is', h]
  simp only
  cases setPart hostTell a p (bareB v) <;> rfl
theorem bareB_len (v : Bs) : (bareB v).length ≤ v.length := List.length_filter_le _ _

set_option maxHeartbeats 8000000 in
set_option maxRecDepth 8000 in
theorem Tryz.With_any (t v : Bs) (p : Int) (w : World) (ht : t.length ≤ maxLen) (hvl : v.length ≤ maxLen) (hp1 : -9223372036854775808 ≤ p) (hp2 : p ≤ 9223372036854775807) (henv : Tryz.Env3 w) :
    Calls Tryz.prog 8 #[.string ⟨t.toArray⟩, .int .i64 p, .string ⟨v.toArray⟩] w fun e w' => e = ParseRes (withPart hostTell t p v) ∧ Below w.heap.size w w' := by
  by_cases hl : v.length ≤ 2000
  · have HL : Hid (∀ w1, Calls Tryz.prog 17 #[.string ⟨v.toArray⟩] w1 fun e w' => e = .returned (.bool false) ∧ w' = w1) := fun w1 => Tryz.isLong_no _ w1 (by rw [size_mk]; exact hl)
    have HR : Hid (Calls Tryz.prog 14 #[.string ⟨t.toArray⟩] w fun e w' => Tryz.AloneRes (alone t) e w' ∧ Below w.heap.size w w') := Tryz.readAlone_any t w ht henv.env2
    have HN : Hid (∀ w1 : World, (w1.alloc (.cells zeroAdr 52)).heap[w1.heap.size]? = some (.cells zeroAdr 52 (0, 0))) := fun w1 => alloc_here w1 _ _
    cases ha : alone t with
    | error n =>
      have hn : n ≠ 0 := alone_err (by rw [← alone_is']; exact ha)
      have HE : Hid (withPart hostTell t p v = .error n) := by
        show _ = _
        unfold withPart
        rw [if_neg (by omega), ← alone_is', ha]
      rw [HE.out]
      rw [ha] at HR
      generalize (⟨t.toArray⟩ : ByteArray) = tb at *
      generalize (⟨v.toArray⟩ : ByteArray) = vb at *
      clear ht hvl hp1 hp2 henv hl ha HE
      go_enter Tryz.func8, Tryz.ntmps8
      go_wp2_with fail
      refine (HL.out w).mono ?_
      rintro e W0 ⟨rfl, hw0⟩
      have hw0 := hw0.symm
      subst hw0
      go_wp2_with fail
      refine HR.out.mono ?_
      rintro e w1 ⟨⟨cs, rfl, hcz, hone⟩, b1⟩
      have HZS : Hid ((Tryz.prog.info? 52).map (·.size) = some cs.size) := by show _ = _; rw [hcz]; exact Tryz.sizeAdr
      have HZO : Hid (zeroAdr.size = cs.size) := by show _ = _; rw [hcz]; rfl
      have HON : Hid (cs.all (·.oneCell') = true) := hone
      have HN1 : Hid _ := HN.out w1
      have HB : Hid (Below w.heap.size w ((w1.alloc (.cells zeroAdr 52)).setRow w1.heap.size cs)) := below_setRow (b1.alloc b1.size _) b1.size _
      clear hcz hone b1
      go_wp2_with (first | refine wpList_store_row rfl 52 _ _ rfl w1.heap.size cs rfl rfl 52 zeroAdr HN1.out HZS.out HZO.out HON.out ?_)
      go_ret2
      exact ⟨rfl, HB.out⟩
    | ok a =>
      have HE : Hid (withPart hostTell t p v = told (setPart hostTell a p (bareB v))) := withPart_told hl ha
      have hsm := alone_small t a ha
      have HWI : Hid (∀ w1 u, Below w.heap.size w w1 → SegRow w1 u a.way.segs → Calls Tryz.prog 19 #[.agg (adrCells a u), .int .i64 p, .string ⟨v.toArray⟩] w1 fun e w' => Tryz.AnyRes (setPart hostTell a p (bareB v)) e w' ∧ Below w.heap.size w w') := by
        intro w1 u h1 hu
        refine (Tryz.AWith_any a u p v w1 (by omega) hp1 hp2 hu hsm (henv.below h1)).mono ?_
        rintro e w' ⟨hr, hb⟩
        exact ⟨hr, h1.trans (hb.mono h1.size)⟩
      have HT : Hid (∀ cs x w1, Below w.heap.size w w1 → Tryz.AnyRes (setPart hostTell a p (bareB v)) (.returned (.tuple #[.agg cs, x])) w1 → Calls Tryz.prog 18 #[.agg cs, x] w1 fun e w' => e = ParseRes (told (setPart hostTell a p (bareB v))) ∧ Below w.heap.size w w') := by
        intro cs x w1 hb1 hr
        refine (Tryz.tellBoth_any _ cs x w1 hr (fun b h => setPart_small hsm (Nat.le_trans (bareB_len v) hl) h) (henv.env2.below hb1)).mono ?_
        rintro e w' ⟨rfl, hb2⟩
        exact ⟨rfl, hb1.trans (hb2.mono hb1.size)⟩
      have HX : Hid (∃ x y, ParseRes (told (setPart hostTell a p (bareB v))) = .returned (.tuple #[x, y])) := by
        cases setPart hostTell a p (bareB v) <;> exact ⟨_, _, rfl⟩
      rw [HE.out]
      rw [ha] at HR
      generalize setPart hostTell a p (bareB v) = res at *
      generalize (⟨t.toArray⟩ : ByteArray) = tb at *
      generalize (⟨v.toArray⟩ : ByteArray) = vb at *
      clear ht hvl hp1 hp2 henv hl ha HE hsm
      go_enter Tryz.func8, Tryz.ntmps8
      go_wp2_with fail
      refine (HL.out w).mono ?_
      rintro e W0 ⟨rfl, hw0⟩
      have hw0 := hw0.symm
      subst hw0
      go_wp2_with fail
      refine HR.out.mono ?_
      rintro e w1 ⟨⟨u, rfl, hu⟩, b1⟩
      have hone : (adrCells a u).all (·.oneCell') = true := by
        obtain ⟨⟨sp, cap, rfl, _⟩, _⟩ := hu
        exact adrCells_one _ _ rfl
      obtain ⟨V, hV⟩ : ∃ V, V = (w1.alloc (.cells zeroAdr 52)).setRow w1.heap.size (adrCells a u) := ⟨_, rfl⟩
      have HN1 : Hid ((w1.alloc (.cells zeroAdr 52)).heap[w1.heap.size]? = some (.cells zeroAdr 52 (0, 0))) := alloc_here w1 _ _
      have hVB : Below w1.heap.size w1 V := by
        rw [hV]
        exact below_setRow ((Below.refl _ _).alloc (Nat.le_refl _) _) (Nat.le_refl _) _
      have HVC : Hid (V.heap[w1.heap.size]? = some (.cells (adrCells a u) 52 (0, 0))) := by
        show _ = _
        rw [hV]
        exact setRow_here HN1.out _
      have HW2 : Hid _ := HWI.out V u (b1.trans (hVB.mono b1.size)) (segRow_below hu hVB)
      have HVE : Hid (V = (w1.alloc (.cells zeroAdr 52)).setRow w1.heap.size (adrCells a u)) := hV
      generalize hcs : adrCells a u = cs at *
      have hcz : cs.size = 13 := by rw [← hcs]; rfl
      have HZS : Hid ((Tryz.prog.info? 52).map (·.size) = some cs.size) := by show _ = _; rw [hcz]; exact Tryz.sizeAdr
      have HZO : Hid (zeroAdr.size = cs.size) := by show _ = _; rw [hcz]; rfl
      have HON : Hid (cs.all (·.oneCell') = true) := hone
      clear hone b1 hu hV hVB hcs hcz HWI
      go_upto_region 4 with (first | refine wpList_store_row rfl 52 _ _ rfl w1.heap.size cs rfl rfl 52 zeroAdr HN1.out HZS.out HZO.out HON.out ?_)
      have hve := HVE.out
      unfold zeroAdr at hve
      rw [← hve]
      clear hve HVE HN1 HN HZO HON
      go_wp2_with (first | refine wpList_load_row rfl 52 _ rfl w1.heap.size rfl 52 cs (0, 0) _ HVC.out Tryz.underlying52 rfl HZS.out ?_)
      refine Calls.mono HW2.out ?_
      rintro e w2 ⟨hr, b2⟩
      obtain ⟨cs2, x, rfl, _, _⟩ := Tryz.anyRes_ret hr
      have HT2 : Hid (Calls Tryz.prog 18 #[.agg cs2, x] w2 fun e w' => e = ParseRes (told res) ∧ Below w.heap.size w w') := HT.out cs2 x w2 b2 hr
      clear hr b2
      go_wp2_with fail
      refine HT2.out.mono ?_
      rintro e w3 ⟨he, b3⟩
      obtain ⟨y, q, hpq⟩ := HX.out
      rw [hpq] at he
      subst he
      go_wp2_with fail
      go_ret2
      exact ⟨hpq.symm, b3⟩
  · have HL : Hid (∀ w1, Calls Tryz.prog 17 #[.string ⟨v.toArray⟩] w1 fun e w' => e = .returned (.bool true) ∧ w' = w1) := fun w1 => Tryz.isLong_yes _ w1 (by rw [size_mk]; omega) (by rw [size_mk]; exact hvl)
    have HP : Hid (withPart hostTell t p v = .error 1) := by show _ = _; unfold withPart; rw [if_pos (by omega)]
    rw [HP.out]
    generalize (⟨t.toArray⟩ : ByteArray) = tb at *
    generalize (⟨v.toArray⟩ : ByteArray) = vb at *
    clear ht hvl hp1 hp2 henv hl HP
    go_enter Tryz.func8, Tryz.ntmps8
    go_wp2_with (go_at_call 17; refine (HL.out _).mono ?_; rintro e W0 ⟨rfl, hw0⟩; have hw0 := hw0.symm; subst hw0)
    go_ret2
    exact ⟨rfl, Below.refl _ _⟩
end Go.Proofs
/-
  What works, short and Again of package moorkeep answer.
-/
namespace Go.Proofs
open Go.RowKit Go.Moor

theorem works_parse : parse hostTell [72, 84, 84, 80, 58, 47, 47, 72, 58, 56, 48] [] = .ok [104, 116, 116, 112, 58, 47, 47, 104, 47] := by kernel_rfl
set_option maxHeartbeats 400000 in
theorem Tryz.works_any (w : World) (henv : Tryz.Env2 w) : Calls Tryz.prog 12 #[] w fun e w' => e = .returned (.bool true) ∧ Below w.heap.size w w' := by
  have HT : Hid (Calls Tryz.prog 25 #[.string ⟨#[72, 84, 84, 80, 58, 47, 47, 72, 58, 56, 48]⟩, .string ⟨#[]⟩, .string ⟨#[104, 116, 116, 112, 58, 47, 47, 104, 47]⟩] w fun e w' => e = .returned (.bool true) ∧ Below w.heap.size w w') := Tryz.told_any [72, 84, 84, 80, 58, 47, 47, 72, 58, 56, 48] [] [104, 116, 116, 112, 58, 47, 47, 104, 47] w (by decide) (by decide) henv works_parse
  go_enter Tryz.func12, Tryz.ntmps12
  go_wp2_with fail
  refine HT.out.mono ?_
  rintro e w1 ⟨rfl, b1⟩
  go_wp2_with fail
  go_ret
  exact ⟨rfl, b1⟩
end Go.Proofs
/-
  What Split answers of what is no address; what Given answers where there is none, or it is told too long.
-/
namespace Go.Proofs
open Go.RowKit Go.Moor

theorem zeroParts_one : zeroParts.all (·.oneCell') = true := by unfold zeroParts; simp [Value.oneCell']
set_option maxHeartbeats 8000000 in
set_option maxRecDepth 8000 in
theorem Tryz.Split_err (t : Bs) (n : Int) (w : World) (ho : alone t = .error n) (ht : t.length ≤ maxLen) (henv : Tryz.Env2 w) :
    Calls Tryz.prog 6 #[.string ⟨t.toArray⟩] w fun e w' => e = .returned (.tuple #[.agg zeroParts, .int .i64 n]) ∧ Below w.heap.size w w' := by
  obtain ⟨W, hW⟩ : ∃ W, W = w.alloc (.cells zeroParts 28) := ⟨_, rfl⟩
  have hBW : Below w.heap.size w W := by
    rw [hW]
    exact (Below.refl _ _).alloc (Nat.le_refl _) _
  have HBW : Hid (Below w.heap.size w W) := hBW
  have hsize : W.heap.size = w.heap.size + 1 := by rw [hW]; simp
  have hz0 : W.heap[w.heap.size]? = some (.cells zeroParts 28 (0, 0)) := by rw [hW]; exact alloc_here w _ _
  have HZ : Hid (∀ w1, Below W.heap.size W w1 → w1.heap[w.heap.size]? = some (.cells zeroParts 28 (0, 0))) := fun w1 h1 => (h1.block w.heap.size (by omega)).trans hz0
  have HR : Hid (Calls Tryz.prog 14 #[.string ⟨t.toArray⟩] W fun e w' => (∃ cs, e = .returned (.tuple #[.agg cs, .int .i64 n]) ∧ cs.size = 13 ∧ cs.all (·.oneCell') = true) ∧ Below W.heap.size W w') := by
    have := Tryz.readAlone_any t W ht (henv.below hBW)
    rw [ho] at this
    exact this
  have hn : n ≠ 0 := alone_err (by rw [← alone_is']; exact ho)
  have HM : Hid (w.heap.size < W.heap.size) := (by omega : w.heap.size < W.heap.size)
  clear ht henv hBW hz0 ho
  go_enter Tryz.func6, Tryz.ntmps6
  go_upto_region 1 with fail
  unfold zeroParts at hW
  rw [← hW]
  clear hW
  go_wp2_with fail
  refine Calls.mono HR.out ?_
  rintro e w2 ⟨⟨cs, rfl, hcz, hone⟩, b2⟩
  have HZS : Hid ((Tryz.prog.info? 52).map (·.size) = some cs.size) := by show _ = _; rw [hcz]; exact Tryz.sizeAdr
  have HZO : Hid (zeroAdr.size = cs.size) := by show _ = _; rw [hcz]; rfl
  have HON : Hid (cs.all (·.oneCell') = true) := hone
  have HN : Hid ((w2.alloc (.cells zeroAdr 52)).heap[w2.heap.size]? = some (.cells zeroAdr 52 (0, 0))) := alloc_here w2 _ _
  have HB3 : Hid (Below W.heap.size W ((w2.alloc (.cells zeroAdr 52)).setRow w2.heap.size cs)) := below_setRow (b2.alloc b2.size _) b2.size _
  have HZ3 : Hid (((w2.alloc (.cells zeroAdr 52)).setRow w2.heap.size cs).heap[w.heap.size]? = some (.cells zeroParts 28 (0, 0))) := HZ.out _ HB3.out
  clear hcz hone b2
  go_wp2_with (first | refine wpList_store_row rfl 52 _ _ rfl w2.heap.size cs rfl rfl 52 zeroAdr HN.out HZS.out HZO.out HON.out ?_ | refine wpList_store_row rfl 28 _ _ rfl w.heap.size zeroParts rfl rfl 28 zeroParts HZ3.out Tryz.sizeParts rfl zeroParts_one ?_)
  (try simp only [Exit.inBlock, Exit.then])
  have hld := run_loadVar_row (P := Tryz.prog) _ w.heap.size 28 28 zeroParts (0, 0) _ (setRow_here HZ3.out zeroParts) Tryz.underlying28 rfl Tryz.sizeParts
  refine bodyPost_ret (v := .tuple #[.agg zeroParts, .int .i64 n]) ?_ rfl ⟨rfl, below_setRow (HBW.out.trans (HB3.out.mono (Nat.le_of_lt HM.out))) (Nat.le_refl _) _⟩
  rw [results_cell_tmp rfl]
  simp only [zeroParts, zeroAdr] at hld
  simp [asAddr, Result.andThen, hld, zeroParts]

end Go.Proofs
/-
  A row of pairs; what areLong, Pairs and Join of package moor answer of what is too long.
-/
namespace Go.Proofs
open Go.RowKit Go.Moor

/-- A row of pairs that can be read. -/
def PairRow (w : World) (v : Value) (ps : List (List UInt8 × List UInt8)) : Prop := ∃ sp cap, v = .slice sp ps.length cap ∧ ps.length ≤ cap ∧ cap ≤ maxLen ∧ ∀ (j : Nat) p, ps[j]? = some p → ∃ g, sp = some ⟨g, 0, none⟩ ∧ g < w.heap.size ∧ w.cell? ⟨g, j * 2, none⟩ = some (.string ⟨p.1.toArray⟩) ∧ w.cell? ⟨g, j * 2 + 1, none⟩ = some (.string ⟨p.2.toArray⟩)
theorem PairRow.below {w w' : World} {v : Value} {ps : List (List UInt8 × List UInt8)} (h : PairRow w v ps) (hb : Below w.heap.size w w') : PairRow w' v ps := by
  obtain ⟨sp, cap, hv, h1, h2, h3⟩ := h
  refine ⟨sp, cap, hv, h1, h2, fun j p hj => ?_⟩
  obtain ⟨g, hg, hz, c1, c2⟩ := h3 j p hj
  exact ⟨g, hg, Nat.lt_of_lt_of_le hz hb.size, (hb.cell (p := ⟨g, j * 2, none⟩) hz).trans c1, (hb.cell (p := ⟨g, j * 2 + 1, none⟩) hz).trans c2⟩
def sumLen (ps : List (List UInt8 × List UInt8)) : Nat := (ps.map fun p => p.1.length + p.2.length).sum
theorem sumLen_next (ps : List (List UInt8 × List UInt8)) (q : Nat) (p : List UInt8 × List UInt8) (h : ps[q]? = some p) : sumLen (ps.take (q + 1)) = sumLen (ps.take q) + (p.1.length + p.2.length) := by
  unfold sumLen
  rw [List.take_add_one, h]
  simp
theorem sumLen_le (ps : List (List UInt8 × List UInt8)) (q : Nat) : sumLen (ps.take q) ≤ sumLen ps := by
  have h : sumLen ps = sumLen (ps.take q) + sumLen (ps.drop q) := by
    conv => lhs; rw [← List.take_append_drop q ps]
    unfold sumLen
    rw [List.map_append, List.sum_append]
  omega

theorem wrap64_id (x : Int) (h0 : 0 ≤ x) (h1 : x < 9223372036854775808) : wrap64 x = x := by
  unfold wrap64
  omega
set_option maxHeartbeats 4000000 in
theorem Tryz.areLong_any (ps : List (List UInt8 × List UInt8)) (v : Value) (w : World) (hv : PairRow w v ps) (hx : ∀ p ∈ ps, p.1.length ≤ 1000000 ∧ p.2.length ≤ 1000000) :
    Calls Tryz.prog 23 #[v] w fun e w' => e = .returned (.bool (decide (2000 < sumLen ps))) ∧ Below w.heap.size w w' := by
  obtain ⟨sp, cap, rfl, hnc, hcm, hf⟩ := hv
  unfold maxLen at hcm
  have HS : Hid (∀ (j : Nat) p, ps[j]? = some p → ∃ g, sp = some ⟨g, 0, none⟩ ∧ ∀ wr, Below w.heap.size w wr → wr.cell? ⟨g, j * 2, none⟩ = some (.string ⟨p.1.toArray⟩) ∧ wr.cell? ⟨g, j * 2 + 1, none⟩ = some (.string ⟨p.2.toArray⟩) ∧ g < wr.heap.size) := by
    intro j p hj
    obtain ⟨g, hg, hz, c1, c2⟩ := hf j p hj
    exact ⟨g, hg, fun wr hb => ⟨(hb.cell (p := ⟨g, j * 2, none⟩) hz).trans c1, (hb.cell (p := ⟨g, j * 2 + 1, none⟩) hz).trans c2, Nat.lt_of_lt_of_le hz hb.size⟩⟩
  have HX : Hid (∀ p ∈ ps, p.1.length ≤ 1000000 ∧ p.2.length ≤ 1000000) := hx
  clear hf hx
  go_enter Tryz.func23, Tryz.ntmps23
  go_wp2_with fail
  go_loopw [3, 8] (fun s i wr => ∃ q : Nat, q ≤ ps.length ∧ i = .int .i64 q ∧ s = .int .i64 (sumLen (ps.take q) : Nat) ∧ sumLen (ps.take q) ≤ 2000 ∧ Below w.heap.size w wr) (fun _ i _ => ps.length - (intOf i).toNat)
  case atStart => exact ⟨0, Nat.zero_le _, rfl, rfl, by simp [sumLen], Below.refl _ _⟩
  case round =>
    rename_i wr _
    obtain ⟨q, hq, rfl, rfl, hle, hb⟩ := hrel
    by_cases hlt : q < ps.length
    · obtain ⟨p, hp⟩ : ∃ p, ps[q]? = some p := ⟨ps[q], List.getElem?_eq_getElem hlt⟩
      obtain ⟨g, hsp, hc⟩ := HS.out q p hp
      subst hsp
      obtain ⟨c1, c2, hgz⟩ := hc _ hb
      have hxl := HX.out p (List.mem_of_getElem? hp)
      have HNX : Hid (sumLen (ps.take (q + 1)) = sumLen (ps.take q) + (p.1.length + p.2.length)) := sumLen_next ps q p hp
      have HSB : Hid (sumLen (ps.take (q + 1)) ≤ sumLen ps) := sumLen_le ps (q + 1)
      have HB : Hid (Below w.heap.size w wr) := hb
      have hw1 : wrap64 ((p.1.length : Int) + (p.2.length : Int)) = (p.1.length : Int) + (p.2.length : Int) := wrap64_id _ (by omega) (by omega)
      have hw2 : wrap64 ((sumLen (ps.take q) : Int) + ((p.1.length : Int) + (p.2.length : Int))) = (sumLen (ps.take q) : Int) + ((p.1.length : Int) + (p.2.length : Int)) := wrap64_id _ (by omega) (by omega)
      clear hb
      go_wp2
      · go_ret
        have h1 := HNX.out
        have h2 := HSB.out
        refine ⟨?_, HB.out.alloc HB.out.size _⟩
        rw [show decide (2000 < sumLen ps) = true from decide_eq_true (by omega)]
        rfl
      · go_roundw
        case rel => exact ⟨q + 1, by omega, by go_num, by rw [HNX.out]; simp, by have := HNX.out; omega, HB.out.alloc HB.out.size _⟩
        case measure => (simp [intOf]; try omega)
    · have HQ : Hid (sumLen ps ≤ 2000) := by
        show _ ≤ _
        rw [List.take_of_length_le (by omega)] at hle
        exact hle
      have HB : Hid (Below w.heap.size w wr) := hb
      clear hb
      go_wp2
      go_ret
      refine ⟨?_, HB.out⟩
      rw [show decide (2000 < sumLen ps) = false from decide_eq_false (by have := HQ.out; omega)]
      rfl
end Go.Proofs
/-
  What Origin, Host, Pairs and Join of package moor answer of what they refuse.
-/
namespace Go.Proofs
open Go.RowKit Go.Moor

set_option maxHeartbeats 4000000 in
set_option maxRecDepth 8000 in
theorem Tryz.Origin_err (t : Bs) (n : Int) (w : World) (ho : alone t = .error n) (ht : t.length ≤ maxLen) (henv : Tryz.Env2 w) :
    Calls Tryz.prog 7 #[.string ⟨t.toArray⟩] w fun e w' => e = .returned (.tuple #[.string ⟨#[]⟩, .int .i64 n]) ∧ Below w.heap.size w w' := by
  have HR : Hid (Calls Tryz.prog 14 #[.string ⟨t.toArray⟩] w fun e w' => (∃ cs, e = .returned (.tuple #[.agg cs, .int .i64 n]) ∧ cs.size = 13 ∧ cs.all (·.oneCell') = true) ∧ Below w.heap.size w w') := by
    have := Tryz.readAlone_any t w ht henv
    rw [ho] at this
    exact this
  have hn : n ≠ 0 := alone_err (by rw [← alone_is']; exact ho)
  clear ht henv ho
  go_enter Tryz.func7, Tryz.ntmps7
  go_wp2_with fail
  refine Calls.mono HR.out ?_
  rintro e w2 ⟨⟨cs, rfl, hcz, hone⟩, b2⟩
  have HZS : Hid ((Tryz.prog.info? 52).map (·.size) = some cs.size) := by show _ = _; rw [hcz]; exact Tryz.sizeAdr
  have HZO : Hid (zeroAdr.size = cs.size) := by show _ = _; rw [hcz]; rfl
  have HON : Hid (cs.all (·.oneCell') = true) := hone
  have HN : Hid ((w2.alloc (.cells zeroAdr 52)).heap[w2.heap.size]? = some (.cells zeroAdr 52 (0, 0))) := alloc_here w2 _ _
  have HB3 : Hid (Below w.heap.size w ((w2.alloc (.cells zeroAdr 52)).setRow w2.heap.size cs)) := below_setRow (b2.alloc b2.size _) b2.size _
  clear hcz hone b2
  go_wp2_with (first | refine wpList_store_row rfl 52 _ _ rfl w2.heap.size cs rfl rfl 52 zeroAdr HN.out HZS.out HZO.out HON.out ?_)
  go_ret2
  exact ⟨rfl, HB3.out⟩
set_option maxHeartbeats 1000000 in
theorem Tryz.Pairs_long (s : ByteArray) (w : World) (h : 2000 < s.size) (hs : s.size ≤ maxLen) :
    Calls Tryz.prog 10 #[.string s] w fun e w' => e = .returned (.tuple #[.slice none 0 0, .int .i64 1]) ∧ w' = w := by
  have HL : Hid (∀ w1, Calls Tryz.prog 17 #[.string s] w1 fun e w' => e = .returned (.bool true) ∧ w' = w1) := fun w1 => Tryz.isLong_yes _ w1 h hs
  clear h hs
  go_enter Tryz.func10, Tryz.ntmps10
  go_wp2_with (go_at_call 17; refine (HL.out _).mono ?_; rintro e W0 ⟨rfl, hw0⟩; have hw0 := hw0.symm; subst hw0)
  go_ret2
  exact ⟨rfl, rfl⟩
set_option maxHeartbeats 1000000 in
theorem Tryz.Join_long (ps : List (Bs × Bs)) (v : Value) (w : World) (hv : PairRow w v ps) (hx : ∀ p ∈ ps, p.1.length ≤ 1000000 ∧ p.2.length ≤ 1000000) (h : 2000 < sumLen ps) :
    Calls Tryz.prog 11 #[v] w fun e w' => e = .returned (.tuple #[.string ⟨#[]⟩, .int .i64 1]) ∧ Below w.heap.size w w' := by
  have HL : Hid (Calls Tryz.prog 23 #[v] w fun e w' => e = .returned (.bool true) ∧ Below w.heap.size w w') := by
    have := Tryz.areLong_any ps v w hv hx
    rw [decide_eq_true h] at this
    exact this
  clear h hv hx
  go_enter Tryz.func11, Tryz.ntmps11
  go_wp2_with fail
  refine HL.out.mono ?_
  rintro e w1 ⟨rfl, b1⟩
  go_wp2_with fail
  go_ret2
  exact ⟨rfl, b1⟩
end Go.Proofs
/-
  Plain mathematics: the texts of Firm that are no addresses, and what they are refused with.
-/
namespace Go.Moor
open Go

def firmT : List Bs := [[], [120], [47, 47, 120], [104, 116, 116, 112, 58], [104, 116, 116, 112, 58, 47, 47], [104, 116, 116, 112, 58, 47, 47, 64], [104, 116, 116, 112, 58, 47, 47, 97, 64], [104, 116, 116, 112, 58, 47, 47, 58, 56, 48], [104, 116, 116, 112, 58, 47, 47, 97, 32, 98], [104, 116, 116, 112, 58, 47, 47, 97, 37, 48, 48, 98], [104, 116, 116, 112, 58, 47, 47, 91, 49], [104, 116, 116, 112, 58, 47, 47, 91, 49, 58, 50, 93], [104, 116, 116, 112, 58, 47, 47, 91, 49, 58, 50, 58, 51, 58, 52, 58, 53, 58, 54, 58, 55, 58, 56, 58, 57, 93], [104, 116, 116, 112, 58, 47, 47, 49, 46, 50, 46, 51, 46, 52, 46, 53], [104, 116, 116, 112, 58, 47, 47, 50, 53, 54, 46, 49, 46, 49, 46, 49], [104, 116, 116, 112, 58, 47, 47, 97, 58, 98], [104, 116, 116, 112, 58, 47, 47, 97, 58, 54, 53, 53, 51, 54], [120, 58, 47, 47, 97, 32, 98], [120, 58, 47, 47, 117, 64], [120, 58, 47, 47, 58, 56, 48], [102, 105, 108, 101, 58, 47, 47, 97, 32, 98], [104, 116, 116, 112, 58, 47, 47, 97, 58, 56, 48, 120, 47], [104, 116, 116, 112, 58, 47, 47, 255]]
def firmE : List Int := [3, 3, 3, 4, 4, 4, 4, 4, 4, 4, 4, 4, 4, 4, 4, 5, 5, 4, 4, 4, 4, 5, 4]
def isErr {α : Type} (o : Except Int α) (e : Int) : Bool := match o with | .error n => n == e | .ok _ => false
theorem isErr_is {α : Type} {o : Except Int α} {e : Int} (h : isErr o e = true) : o = .error e := by
  cases o with
  | error n => simp only [isErr, beq_iff_eq] at h; rw [h]
  | ok a => cases h
theorem firm_len : firmT.length = 23 ∧ firmE.length = 23 := ⟨rfl, rfl⟩
set_option maxRecDepth 100000 in
theorem firm_one : ((List.range 23).all fun k => isErr (parse hostTell (firmT.getD k []) []) (firmE.getD k 0)) = true := by kernel_rfl
set_option maxRecDepth 100000 in
theorem firm_two : ((List.range 23).all fun k => isErr (parse hostTell [120] (firmT.getD k [])) (if k = 0 then 3 else 2)) = true := by kernel_rfl
set_option maxRecDepth 100000 in
theorem firm_three : ((List.range 23).all fun k => isErr (readAlone hostTell (firmT.getD k [])) (firmE.getD k 0)) = true := by kernel_rfl
theorem firm_parse (k : Nat) (h : k < 23) : parse hostTell (firmT.getD k []) [] = .error (firmE.getD k 0) := isErr_is (List.all_eq_true.1 firm_one k (List.mem_range.2 h))
theorem firm_base (k : Nat) (h : k < 23) : parse hostTell [120] (firmT.getD k []) = .error (if k = 0 then 3 else 2) := isErr_is (List.all_eq_true.1 firm_two k (List.mem_range.2 h))
theorem firm_alone (k : Nat) (h : k < 23) : readAlone hostTell (firmT.getD k []) = .error (firmE.getD k 0) := isErr_is (List.all_eq_true.1 firm_three k (List.mem_range.2 h))
theorem firm_with (k : Nat) (h : k < 23) : withPart hostTell (firmT.getD k []) 1 [120] = .error (firmE.getD k 0) := by
  unfold withPart
  rw [if_neg (by decide), firm_alone k h]
theorem firm_empty (k : Nat) (h : k < 23) : (firmT.getD k []).isEmpty = decide (k = 0) := by
  have : ((List.range 23).all fun k => (firmT.getD k []).isEmpty == decide (k = 0)) = true := by decide +kernel
  simpa using List.all_eq_true.1 this k (List.mem_range.2 h)
theorem firm_short (k : Nat) (h : k < 23) : (firmT.getD k []).length ≤ 100 := by
  have : ((List.range 23).all fun k => decide ((firmT.getD k []).length ≤ 100)) = true := by decide +kernel
  simpa using List.all_eq_true.1 this k (List.mem_range.2 h)
/-- A text that is longer than a text may be. -/
def longT : Bs := List.replicate 2001 0
theorem long_len : longT.length = 2001 := List.length_replicate
theorem long_parse (b : Bs) : parse hostTell longT b = .error 1 := by
  unfold parse
  rw [if_pos (Or.inl (by rw [long_len]; omega))]
theorem long_base (t : Bs) : parse hostTell t longT = .error 1 := by
  unfold parse
  rw [if_pos (Or.inr (by rw [long_len]; omega))]
theorem long_alone : readAlone hostTell longT = .error 1 := by
  unfold readAlone
  rw [if_pos (by rw [long_len]; omega)]
theorem long_with (t : Bs) (p : Int) : withPart hostTell t p longT = .error 1 := by
  unfold withPart
  rw [if_pos (by rw [long_len]; omega)]
theorem part_nine (p : Int) (h : 9 ≤ p) : withPart hostTell [104, 116, 116, 112, 58, 47, 47, 104] p [120] = .error 6 := by
  have ha : ∃ a, readAlone hostTell [104, 116, 116, 112, 58, 47, 47, 104] = .ok a := by
    have : (match readAlone hostTell [104, 116, 116, 112, 58, 47, 47, 104] with | .ok _ => true | .error _ => false) = true := by kernel_rfl
    cases h : readAlone hostTell [104, 116, 116, 112, 58, 47, 47, 104] with
    | ok a => exact ⟨a, rfl⟩
    | error e => rw [h] at this; cases this
  obtain ⟨a, ha⟩ := ha
  unfold withPart
  rw [if_neg (by decide), ha]
  simp only
  unfold setPart
  rw [if_neg (by omega), if_neg (by omega), if_neg (by omega), if_neg (by omega), if_neg (by omega), if_neg (by omega)]
theorem part_path : withPart hostTell [97, 58, 98] 6 [120] = .error 6 := isErr_is (by kernel_rfl)
end Go.Moor
