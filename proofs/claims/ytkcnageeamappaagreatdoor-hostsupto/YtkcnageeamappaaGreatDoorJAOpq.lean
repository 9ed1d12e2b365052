/-
  What readAsNamed of package address answers.
-/
import Derived.Test.YtkcnageeamappaaGreatDoorJAMarked
import Derived.Deep.QuietTactic
import Derived.BigQuiet
namespace Go.Moor
open Go
/-- The base of an address that has a scheme. -/
def sameBase (s : Bs) (ob : Option Adr) : Option Adr := ob.bind fun b => if b.scheme = s ∧ special s = true then some b else none
end Go.Moor
namespace Go.Proofs
open Go.RowKit Go.Moor

/-- A base behind a pointer, or none. -/
def Tryz.BaseAt (w : World) (p : Option Go.Addr) (ob : Option Adr) : Prop :=
  match ob with
  | none => p = none
  | some b => ∃ kb bv, p = some ⟨kb, 0, none⟩ ∧ w.heap[kb]? = some (.cells (adrCells b bv) 77 (0, 0)) ∧ SegRow w bv b.way.segs ∧ b.way.segs.length ≤ 1000000 ∧ ∀ x ∈ b.way.segs, x.length ≤ 1000000
theorem Tryz.BaseAt.below {w w' : World} {p : Option Go.Addr} {ob : Option Adr} (h : Tryz.BaseAt w p ob) (hb : Below w.heap.size w w') : Tryz.BaseAt w' p ob := by
  cases ob with
  | none => exact h
  | some b =>
    obtain ⟨kb, bv, h1, h2, h3, h4, h5⟩ := h
    exact ⟨kb, bv, h1, (hb.block kb (Array.getElem?_eq_some_iff.1 h2).1).trans h2, segRow_below h3 hb, h4, h5⟩
theorem Tryz.BaseAt.ok {w : World} {p : Option Go.Addr} {ob : Option Adr} (h : Tryz.BaseAt w p ob) (k : Nat) (hk : w.heap.size ≤ k) : Tryz.BaseOk w k p ob := by
  cases ob with
  | none => exact h
  | some b =>
    obtain ⟨kb, bv, h1, h2, h3, h4, h5⟩ := h
    have hz := (Array.getElem?_eq_some_iff.1 h2).1
    refine ⟨kb, bv, h1, by omega, h2, h3, ?_, h4, h5⟩
    intro g n c hv
    obtain ⟨cur, fr, hh⟩ := h3.2 g n c hv
    have := (Array.getElem?_eq_some_iff.1 hh).1
    omega
theorem str_ne (a b : Bs) (h : a ≠ b) : ((⟨a.toArray⟩ : ByteArray).toList == (⟨b.toArray⟩ : ByteArray).toList) = false := by
  rw [Lib.toList_data, Lib.toList_data, beq_eq_false_iff_ne]
  exact h
theorem Tryz.adrRes_ret {o : Except Int Adr} {e : Ending} {w' : World} (h : Tryz.AdrRes o e w') : ∃ cs v, e = .returned (.tuple #[.agg cs, v]) ∧ cs.size = 13 ∧ cs.all (·.oneCell') = true := by
  cases o with
  | error n => obtain ⟨cs, x, y, te, ve, rfl, h1, h2⟩ := h; exact ⟨cs, _, rfl, h1, h2⟩
  | ok a => obtain ⟨v, rfl, ⟨sp, cap, rfl, _⟩, _⟩ := h; exact ⟨_, _, rfl, rfl, adrCells_one _ _ rfl⟩
/-- A result stays what it is where a block of addresses is written. -/
theorem Tryz.adrRes_setRow {o : Except Int Adr} {e : Ending} {w' : World} (h : Tryz.AdrRes o e w') (g : Nat) (old cs : Array Value) (hg : w'.heap[g]? = some (.cells old 77 (0, 0))) : Tryz.AdrRes o e (w'.setRow g cs) := by
  cases o with
  | error n => exact h
  | ok a =>
    obtain ⟨v, rfl, hs⟩ := h
    refine ⟨v, rfl, ?_⟩
    have hoff := tagged_off hs.2 hg (by decide)
    have hbut : But g w' (w'.setRow g cs) := ⟨rfl, rfl, rfl, by simp, fun j _ hn => setRow_other w' g cs j hn⟩
    exact segRow_but hs hbut hoff

set_option maxHeartbeats 4000000 in
theorem Tryz.readAsNamed_any (c : Cuts) (ob : Option Adr) (bp : Option Go.Addr) (w : World) (hm : c.middle.length ≤ 100000) (hq : (c.query.getD []).length ≤ 100000) (hf : (c.frag.getD []).length ≤ 100000) (hbase : Tryz.BaseAt w bp ob) (henv : Tryz.Env2 w) :
    Calls Tryz.prog 154 #[.agg (cutsCells c), .pointer bp] w fun e w' => Tryz.AdrRes (readMarked hostTell c.scheme c.middle c.query c.frag (sameBase c.scheme ob)) e w' ∧ Below w.heap.size w w' := by
  obtain ⟨W, hW⟩ : ∃ W, W = (w.alloc (.cells (cutsCells c) 137)).alloc (.cells zeroAdr 77) := ⟨_, rfl⟩
  have hBW : Below w.heap.size w W := by
    rw [hW]
    exact ((Below.refl _ _).alloc (Nat.le_refl _) _).alloc (by simp) _
  have HBW : Hid (Below w.heap.size w W) := hBW
  have h2 := two_blocks w (.cells (cutsCells c) 137) (.cells zeroAdr 77)
  rw [← hW] at h2
  have HMK : Hid (∀ n : Nat, (W.drewN n).heap[w.heap.size]? = some (.cells (cutsCells c) 137 (0, 0))) := fun _ => h2.1
  have HSP : Hid (∀ w1, Calls Tryz.prog 126 #[.string ⟨c.scheme.toArray⟩] w1 fun e w' => e = .returned (.bool (special c.scheme)) ∧ w' = w1) := fun w1 => Tryz.isSpecial_any ⟨c.scheme.toArray⟩ w1
  have HRM : Hid (∀ (ob2 : Option Adr) (bp2 : Option Go.Addr) (n : Nat), Tryz.BaseAt w bp2 ob2 → Calls Tryz.prog 157 #[.agg (cutsCells c), .pointer bp2] (W.drewN n) fun e w' => Tryz.AdrRes (readMarked hostTell c.scheme c.middle c.query c.frag ob2) e w' ∧ Below w.heap.size w w' ∧ w'.heap[w.heap.size + 1]? = some (.cells zeroAdr 77 (0, 0))) := by
    intro ob2 bp2 n hb
    have hbn : Below w.heap.size w (W.drewN n) := Go.below_drewN HBW.out n
    refine (Tryz.readMarked_any c ob2 bp2 (W.drewN n) hm hq hf (fun k hk => (hb.below hbn).ok k hk) (henv.below hbn)).mono ?_
    rintro e w' ⟨hr, hb'⟩
    refine ⟨hr, hbn.trans (hb'.mono hbn.size), (hb'.block (w.heap.size + 1) ?_).trans h2.2⟩
    have := (Array.getElem?_eq_some_iff.1 h2.2).1
    exact this
  have d0 : W.cell? ⟨w.heap.size, 0, none⟩ = some (.string ⟨c.scheme.toArray⟩) := cell_heap h2.1 0
  have HSZ : Hid ((Tryz.prog.info? 137).map (·.size) = some (cutsCells c).size) := Tryz.sizeMarks
  -- what follows the test
  have HFIN : Hid (∀ (res : Except Int Adr) (e : Ending) (w2 : World), Tryz.AdrRes res e w2 ∧ Below w.heap.size w w2 ∧ w2.heap[w.heap.size + 1]? = some (.cells zeroAdr 77 (0, 0)) → ∃ cs v, e = .returned (.tuple #[.agg cs, v]) ∧ Hid (w2.heap[w.heap.size + 1]? = some (.cells zeroAdr 77 (0, 0))) ∧ Hid ((Tryz.prog.info? 77).map (·.size) = some cs.size) ∧ Hid (zeroAdr.size = cs.size) ∧ Hid (cs.all (·.oneCell') = true) ∧ Hid (Tryz.AdrRes res (.returned (.tuple #[.agg cs, v])) (w2.setRow (w.heap.size + 1) cs) ∧ Below w.heap.size w (w2.setRow (w.heap.size + 1) cs))) := by
    rintro res e w2 ⟨h1, h3, h4⟩
    obtain ⟨cs, v, rfl, h5, h6⟩ := Tryz.adrRes_ret h1
    exact ⟨cs, v, rfl, h4, (by show _ = _; rw [h5]; exact Tryz.sizeAdr), (by show _ = _; rw [h5]; rfl), h6, Tryz.adrRes_setRow h1 _ _ cs h4, below_setRow h3 (Nat.le_succ _) _⟩
  cases ob with
  | none =>
    have hbp : bp = none := hbase
    subst hbp
    have HRM2 : Hid (∀ n : Nat, _) := fun n => HRM.out none none n rfl
    have HE : Hid (sameBase c.scheme none = none) := rfl
    generalize cutsCells c = CC at *
    clear hm hq hf hbase henv hBW h2 HRM
    go_enter Tryz.func154, Tryz.ntmps154
    go_upto_region 1 with fail
    unfold zeroAdr at hW
    rw [← hW]
    clear hW
    go_quiet (fail)
    go_wp2_with (refine wpList_load_row rfl 137 _ rfl w.heap.size rfl 137 CC (0, 0) _ (HMK.out nq) Tryz.underlying137 rfl HSZ.out ?_)
    refine Calls.mono (HRM2.out nq) ?_
    intro e w2 hr
    obtain ⟨cs, v, rfl, HN, HZS, HZO, HON, HF⟩ := HFIN.out _ e w2 hr
    clear hr
    go_wp2_with (refine wpList_store_row rfl 77 _ _ rfl (w.heap.size + 1) cs rfl rfl 77 zeroAdr HN.out HZS.out HZO.out HON.out ?_)
    (try simp only [Exit.inBlock, Exit.then])
    have hld := run_loadVar_row (P := Tryz.prog) (w2.setRow (w.heap.size + 1) cs) (w.heap.size + 1) 77 77 cs (0, 0) _ (setRow_heap w2 (w.heap.size + 1) zeroAdr cs 77 (0, 0) HN.out) Tryz.underlying77 rfl HZS.out
    rw [HE.out]
    refine bodyPost_ret (v := .tuple #[.agg cs, v]) ?_ rfl HF.out
    rw [results_cell_tmp rfl]
    simp [asAddr, Result.andThen, hld]
  | some b =>
    have hbW := hbase.below hBW
    have HBS : Hid (Tryz.BaseAt w bp (some b)) := hbase
    obtain ⟨kb, bv, rfl, hkb, _⟩ := hbW
    have k0 : W.cell? ⟨kb, 0, none⟩ = some (.string ⟨b.scheme.toArray⟩) := cell_heap hkb 0
    by_cases hsc : b.scheme = c.scheme
    · rw [hsc] at k0
      cases hs : special c.scheme with
      | true =>
        rw [hs] at HSP
        have HRM2 : Hid (∀ n : Nat, _) := fun n => HRM.out (some b) (some ⟨kb, 0, none⟩) n HBS.out
        have HE : Hid (sameBase c.scheme (some b) = some b) := by show (if b.scheme = c.scheme ∧ special c.scheme = true then some b else none) = some b; rw [if_pos ⟨hsc, hs⟩]
        generalize cutsCells c = CC at *
        obtain ⟨s, hsd⟩ : ∃ s : ByteArray, s = ⟨c.scheme.toArray⟩ := ⟨_, rfl⟩
        rw [← hsd] at k0 d0 HSP
        clear hm hq hf hbase henv hBW h2 HRM hsc hs hkb hsd
        go_enter Tryz.func154, Tryz.ntmps154
        go_upto_region 1 with fail
        unfold zeroAdr at hW
        rw [← hW]
        clear hW
        go_quiet ((go_at_call 126; exact Calls.quiet_of_same (HSP.out _)))
        go_wp2_with (refine wpList_load_row rfl 137 _ rfl w.heap.size rfl 137 CC (0, 0) _ (HMK.out nq) Tryz.underlying137 rfl HSZ.out ?_)
        refine Calls.mono (HRM2.out nq) ?_
        intro e w2 hr
        obtain ⟨cs, v, rfl, HN, HZS, HZO, HON, HF⟩ := HFIN.out _ e w2 hr
        clear hr
        go_wp2_with (refine wpList_store_row rfl 77 _ _ rfl (w.heap.size + 1) cs rfl rfl 77 zeroAdr HN.out HZS.out HZO.out HON.out ?_)
        (try simp only [Exit.inBlock, Exit.then])
        have hld := run_loadVar_row (P := Tryz.prog) (w2.setRow (w.heap.size + 1) cs) (w.heap.size + 1) 77 77 cs (0, 0) _ (setRow_heap w2 (w.heap.size + 1) zeroAdr cs 77 (0, 0) HN.out) Tryz.underlying77 rfl HZS.out
        rw [HE.out]
        refine bodyPost_ret (v := .tuple #[.agg cs, v]) ?_ rfl HF.out
        rw [results_cell_tmp rfl]
        simp [asAddr, Result.andThen, hld]
      | false =>
        rw [hs] at HSP
        have HRM2 : Hid (∀ n : Nat, _) := fun n => HRM.out none none n rfl
        have HE : Hid (sameBase c.scheme (some b) = none) := by show (if b.scheme = c.scheme ∧ special c.scheme = true then some b else none) = none; rw [if_neg (by simp [hs])]
        generalize cutsCells c = CC at *
        obtain ⟨s, hsd⟩ : ∃ s : ByteArray, s = ⟨c.scheme.toArray⟩ := ⟨_, rfl⟩
        rw [← hsd] at k0 d0 HSP
        clear hm hq hf hbase henv hBW h2 HRM hsc hs hkb hsd
        go_enter Tryz.func154, Tryz.ntmps154
        go_upto_region 1 with fail
        unfold zeroAdr at hW
        rw [← hW]
        clear hW
        go_quiet ((go_at_call 126; exact Calls.quiet_of_same (HSP.out _)))
        go_wp2_with (refine wpList_load_row rfl 137 _ rfl w.heap.size rfl 137 CC (0, 0) _ (HMK.out nq) Tryz.underlying137 rfl HSZ.out ?_)
        refine Calls.mono (HRM2.out nq) ?_
        intro e w2 hr
        obtain ⟨cs, v, rfl, HN, HZS, HZO, HON, HF⟩ := HFIN.out _ e w2 hr
        clear hr
        go_wp2_with (refine wpList_store_row rfl 77 _ _ rfl (w.heap.size + 1) cs rfl rfl 77 zeroAdr HN.out HZS.out HZO.out HON.out ?_)
        (try simp only [Exit.inBlock, Exit.then])
        have hld := run_loadVar_row (P := Tryz.prog) (w2.setRow (w.heap.size + 1) cs) (w.heap.size + 1) 77 77 cs (0, 0) _ (setRow_heap w2 (w.heap.size + 1) zeroAdr cs 77 (0, 0) HN.out) Tryz.underlying77 rfl HZS.out
        rw [HE.out]
        refine bodyPost_ret (v := .tuple #[.agg cs, v]) ?_ rfl HF.out
        rw [results_cell_tmp rfl]
        simp [asAddr, Result.andThen, hld]
    · have e1 := str_ne _ _ hsc
      have HRM2 : Hid (∀ n : Nat, _) := fun n => HRM.out none none n rfl
      have HE : Hid (sameBase c.scheme (some b) = none) := by show (if b.scheme = c.scheme ∧ special c.scheme = true then some b else none) = none; rw [if_neg (fun h => hsc h.1)]
      generalize cutsCells c = CC at *
      obtain ⟨s, hsd⟩ : ∃ s : ByteArray, s = ⟨c.scheme.toArray⟩ := ⟨_, rfl⟩
      obtain ⟨s2, hsd2⟩ : ∃ s2 : ByteArray, s2 = ⟨b.scheme.toArray⟩ := ⟨_, rfl⟩
      rw [← hsd] at d0 HSP e1
      rw [← hsd2] at k0 e1
      clear hm hq hf hbase henv hBW h2 HRM hsc hkb hsd hsd2
      go_enter Tryz.func154, Tryz.ntmps154
      go_upto_region 1 with fail
      unfold zeroAdr at hW
      rw [← hW]
      clear hW
      go_quiet (fail)
      go_wp2_with (refine wpList_load_row rfl 137 _ rfl w.heap.size rfl 137 CC (0, 0) _ (HMK.out nq) Tryz.underlying137 rfl HSZ.out ?_)
      refine Calls.mono (HRM2.out nq) ?_
      intro e w2 hr
      obtain ⟨cs, v, rfl, HN, HZS, HZO, HON, HF⟩ := HFIN.out _ e w2 hr
      clear hr
      go_wp2_with (refine wpList_store_row rfl 77 _ _ rfl (w.heap.size + 1) cs rfl rfl 77 zeroAdr HN.out HZS.out HZO.out HON.out ?_)
      (try simp only [Exit.inBlock, Exit.then])
      have hld := run_loadVar_row (P := Tryz.prog) (w2.setRow (w.heap.size + 1) cs) (w.heap.size + 1) 77 77 cs (0, 0) _ (setRow_heap w2 (w.heap.size + 1) zeroAdr cs 77 (0, 0) HN.out) Tryz.underlying77 rfl HZS.out
      rw [HE.out]
      refine bodyPost_ret (v := .tuple #[.agg cs, v]) ?_ rfl HF.out
      rw [results_cell_tmp rfl]
      simp [asAddr, Result.andThen, hld]
end Go.Proofs
/-
  What errRelative and readBesideOpaque of package address answer.
-/
namespace Go.Moor
open Go
def besideOpaque (c : Cuts) (b : Adr) : Except Int Adr := if c.middle = [] ∧ c.query = none ∧ c.frag.isSome then .ok { b with frag := c.frag.map (esc 1) } else .error 3
end Go.Moor
namespace Go.Proofs
open Go.RowKit Go.Moor

theorem Tryz.errRelative_any (te : TypeId) (ve : Value) (w : World) :
    Calls Tryz.prog 155 #[.iface te ve] w fun e w' => e = .returned (.iface 96 (.agg #[.int .i64 3, .string ⟨#[115, 99, 104, 101, 109, 101]⟩, .string ⟨#[]⟩, .iface te ve])) ∧ w' = w := by
  go_enter Tryz.func155, Tryz.ntmps155
  go_wp2
  go_ret
  exact ⟨rfl, rfl⟩
theorem zeroAdr_one : zeroAdr.all (·.oneCell') = true := by simp [zeroAdr, Value.oneCell']
set_option maxHeartbeats 4000000 in
theorem Tryz.readBesideOpaque_any (c : Cuts) (b : Adr) (bv : Value) (w : World) (hf : (c.frag.getD []).length ≤ 100000) (hsr : SegRow w bv b.way.segs) (henv : Tryz.Env2 w) :
    Calls Tryz.prog 156 #[.agg (cutsCells c), .agg (adrCells b bv)] w fun e w' => Tryz.AdrRes (besideOpaque c b) e w' ∧ Below w.heap.size w w' := by
  obtain ⟨W, hW⟩ : ∃ W, W = ((w.alloc (.cells (cutsCells c) 137)).alloc (.cells (adrCells b bv) 77)).alloc (.cells zeroAdr 77) := ⟨_, rfl⟩
  have hBW : Below w.heap.size w W := by
    rw [hW]
    exact (((Below.refl _ _).alloc (Nat.le_refl _) _).alloc (by simp) _).alloc (by simp; omega) _
  have HBW : Hid (Below w.heap.size w W) := hBW
  have h3 := three_blocks w (.cells (cutsCells c) 137) (.cells (adrCells b bv) 77) (.cells zeroAdr 77)
  rw [← hW] at h3
  have hsize : W.heap.size = w.heap.size + 3 := by rw [hW]; simp
  have HMK : Hid (W.heap[w.heap.size]? = some (.cells (cutsCells c) 137 (0, 0))) := h3.1
  have HSM : Hid ((Tryz.prog.info? 137).map (·.size) = some (cutsCells c).size) := Tryz.sizeMarks
  have HIF : Hid (Calls Tryz.prog 207 #[.agg (cutsCells c)] W fun e w' => e = .returned (.bool (fragAlone c)) ∧ Below W.heap.size W w') := Tryz.isFragmentAlone_any c W
  have HB3 : Hid (∀ w1, Below W.heap.size W w1 → w1.heap[w.heap.size]? = some (.cells (cutsCells c) 137 (0, 0)) ∧ w1.heap[w.heap.size + 1]? = some (.cells (adrCells b bv) 77 (0, 0)) ∧ w1.heap[w.heap.size + 2]? = some (.cells zeroAdr 77 (0, 0)) ∧ Below w.heap.size w w1) := fun w1 h1 => ⟨(h1.block _ (by omega)).trans h3.1, (h1.block _ (by omega)).trans h3.2.1, (h1.block _ (by omega)).trans h3.2.2.1, HBW.out.trans (h1.mono (by omega))⟩
  have HV : Hid (Tryz.Env2 W) := henv.below hBW
  have HFA : Hid (fragAlone c = decide (c.middle = [] ∧ c.query = none ∧ c.frag.isSome = true)) := by
    show _ = _
    unfold fragAlone
    obtain ⟨sc, mi, qu, fr⟩ := c
    cases mi <;> cases qu <;> cases fr <;> rfl
  cases hfa : fragAlone c with
  | false =>
    have HE : Hid (besideOpaque c b = .error 3) := by
      show _ = _
      unfold besideOpaque
      rw [if_neg]
      rw [HFA.out] at hfa
      exact of_decide_eq_false hfa
    rw [hfa] at HIF
    generalize cutsCells c = CC at *
    have HEE : Hid (∀ w1, Below W.heap.size W w1 → ∃ te ve, w1.cell? ⟨15, 0, none⟩ = some (.iface te ve)) := fun w1 h1 => (HV.out.below h1).eOpaque
    clear hf hsr henv hBW h3 hfa HFA HV hsize
    go_enter Tryz.func156, Tryz.ntmps156
    go_upto_region 1 with fail
    unfold zeroAdr at hW
    rw [← hW]
    clear hW
    go_wp2_with (refine wpList_load_row rfl 137 _ rfl w.heap.size rfl 137 CC (0, 0) _ HMK.out Tryz.underlying137 rfl HSM.out ?_)
    refine HIF.out.mono ?_
    rintro e w1 ⟨rfl, b1⟩
    obtain ⟨te, ve, hee⟩ := HEE.out w1 b1
    have HN : Hid (w1.heap[w.heap.size + 2]? = some (.cells zeroAdr 77 (0, 0))) := (HB3.out w1 b1).2.2.1
    have HBB : Hid (Below w.heap.size w w1) := (HB3.out w1 b1).2.2.2
    clear b1
    go_wp2_with fail
    refine (Tryz.errRelative_any te ve w1).mono ?_
    rintro e w2 ⟨rfl, hw2⟩
    have hw2 := hw2.symm
    subst hw2
    go_wp2_with (refine wpList_store_row rfl 77 _ _ rfl (w.heap.size + 2) zeroAdr rfl rfl 77 zeroAdr HN.out Tryz.sizeAdr rfl zeroAdr_one ?_)
    (try simp only [Exit.inBlock, Exit.then])
    have hld := run_loadVar_row (P := Tryz.prog) (w1.setRow (w.heap.size + 2) zeroAdr) (w.heap.size + 2) 77 77 zeroAdr (0, 0) _ (setRow_heap w1 (w.heap.size + 2) zeroAdr zeroAdr 77 (0, 0) HN.out) Tryz.underlying77 rfl Tryz.sizeAdr
    rw [HE.out]
    refine bodyPost_ret (v := .tuple #[.agg zeroAdr, .iface 96 (.agg #[.int .i64 3, .string ⟨#[115, 99, 104, 101, 109, 101]⟩, .string ⟨#[]⟩, .iface te ve])]) ?_ rfl ⟨⟨_, _, _, _, _, rfl, rfl, zeroAdr_one⟩, below_setRow HBB.out (by omega) _⟩
    rw [results_cell_tmp rfl]
    simp [asAddr, Result.andThen, hld]
  | true =>
    have HE : Hid (besideOpaque c b = .ok { b with frag := c.frag.map (esc 1) }) := by
      show _ = _
      unfold besideOpaque
      rw [if_pos]
      rw [HFA.out] at hfa
      exact of_decide_eq_true hfa
    rw [hfa] at HIF
    have HFC : Hid (∀ w1, Below W.heap.size W w1 → w1.cell? ⟨w.heap.size, 4, none⟩ = some (.bool c.frag.isSome) ∧ w1.cell? ⟨w.heap.size, 5, none⟩ = some (.string ⟨(c.frag.getD []).toArray⟩)) := fun w1 h1 => ⟨cell_heap (HB3.out w1 h1).1 4, cell_heap (HB3.out w1 h1).1 5⟩
    have HT : Hid (∀ w0, Below W.heap.size W w0 → Calls Tryz.prog 103 #[.agg #[.bool c.frag.isSome, .string ⟨(c.frag.getD []).toArray⟩], .int .i64 1] w0 fun e w' => e = .returned (.agg #[.bool (c.frag.map (esc 1)).isSome, .string ⟨((c.frag.map (esc 1)).getD []).toArray⟩]) ∧ Below W.heap.size W w') := by
      intro w0 h0
      refine (Tryz.escaped_any c.frag 1 w0 (by omega) (HV.out.below h0).env).mono ?_
      rintro e w' ⟨rfl, hb⟩
      exact ⟨rfl, h0.trans (hb.mono h0.size)⟩
    have HSR : Hid (∀ w1, Below w.heap.size w w1 → SegRow w1 bv b.way.segs) := fun w1 h1 => segRow_below hsr h1
    have hv1 : bv.oneCell' = true := by obtain ⟨⟨sp, cap, rfl, _⟩, _⟩ := hsr; rfl
    have HON : Hid ((adrCells { b with frag := c.frag.map (esc 1) } bv).all (·.oneCell') = true) := adrCells_one _ _ hv1
    have HBC : Hid (∀ w1, Below W.heap.size W w1 → w1.cell? ⟨w.heap.size + 1, 11, none⟩ = some (.bool b.frag.isSome) ∧ w1.cell? ⟨w.heap.size + 1, 12, none⟩ = some (.string ⟨(b.frag.getD []).toArray⟩) ∧ w1.frozen? ⟨w.heap.size + 1, 11, none⟩ = false ∧ w1.frozen? ⟨w.heap.size + 1, 12, none⟩ = false ∧ ∀ x y, ((w1.setCell ⟨w.heap.size + 1, 11, none⟩ x).setCell ⟨w.heap.size + 1, 12, none⟩ y).heap[w.heap.size + 1]? = some (.cells (((adrCells b bv).setIfInBounds 11 x).setIfInBounds 12 y) 77 (0, 0))) := by
      intro w1 h1
      have hb1 := (HB3.out w1 h1).2.1
      exact ⟨cell_heap hb1 11, cell_heap hb1 12, frozen_heap hb1 11, frozen_heap hb1 12, fun x y => heap_setCell_same _ _ 12 _ _ y (heap_setCell_same _ _ 11 _ _ x hb1)⟩
    have HAC : Hid (((adrCells b bv).setIfInBounds 11 (.bool (c.frag.map (esc 1)).isSome)).setIfInBounds 12 (.string ⟨((c.frag.map (esc 1)).getD []).toArray⟩) = adrCells { b with frag := c.frag.map (esc 1) } bv) := rfl
    have HIS : Hid ((c.frag.map (esc 1)).isSome = c.frag.isSome) := Option.isSome_map
    generalize cutsCells c = CC at *
    clear hf hsr henv hBW h3 hfa HFA HV hsize hv1
    go_enter Tryz.func156, Tryz.ntmps156
    go_upto_region 1 with fail
    unfold zeroAdr at hW
    rw [← hW]
    clear hW
    go_wp2_with (refine wpList_load_row rfl 137 _ rfl w.heap.size rfl 137 CC (0, 0) _ HMK.out Tryz.underlying137 rfl HSM.out ?_)
    refine HIF.out.mono ?_
    rintro e w1 ⟨rfl, b1⟩
    obtain ⟨y4, y5⟩ := HFC.out w1 b1
    have HT1 : Hid _ := HT.out w1 b1
    clear b1
    go_wp2_with fail
    refine Calls.mono HT1.out ?_
    rintro e w2 ⟨rfl, b2⟩
    obtain ⟨z11, z12, f11, f12, hset⟩ := HBC.out w2 b2
    have HSET : Hid (∀ x y, ((w2.setCell ⟨w.heap.size + 1, 11, none⟩ x).setCell ⟨w.heap.size + 1, 12, none⟩ y).heap[w.heap.size + 1]? = some (.cells (((adrCells b bv).setIfInBounds 11 x).setIfInBounds 12 y) 77 (0, 0))) := hset
    have HN2 : Hid (w2.heap[w.heap.size + 2]? = some (.cells zeroAdr 77 (0, 0))) := (HB3.out w2 b2).2.2.1
    have HBB : Hid (Below w.heap.size w w2) := (HB3.out w2 b2).2.2.2
    clear b2 y4 y5 hset HT1
    obtain ⟨V, hV⟩ : ∃ V, V = (w2.setCell ⟨w.heap.size + 1, 11, none⟩ (.bool c.frag.isSome)).setCell ⟨w.heap.size + 1, 12, none⟩ (.string ⟨((c.frag.map (esc 1)).getD []).toArray⟩) := ⟨_, rfl⟩
    obtain ⟨cs, hcs⟩ : ∃ cs, cs = adrCells { b with frag := c.frag.map (esc 1) } bv := ⟨_, rfl⟩
    have HLD : Hid (V.heap[w.heap.size + 1]? = some (.cells cs 77 (0, 0))) := by
      show _ = _
      rw [hV, hcs, ← HAC.out, HIS.out]
      exact HSET.out _ _
    have HNV : Hid (V.heap[w.heap.size + 2]? = some (.cells zeroAdr 77 (0, 0))) := by
      show _ = _
      rw [hV, heap_setCell_other _ _ _ _ (by simp), heap_setCell_other _ _ _ _ (by simp)]
      exact HN2.out
    have HBV : Hid (Below w.heap.size w V) := by
      show Below _ _ _
      rw [hV]
      exact (HBB.out.setCell (Nat.le_succ _) _).setCell (Nat.le_succ _) _
    have HCS : Hid (cs = adrCells { b with frag := c.frag.map (esc 1) } bv) := hcs
    have HZS : Hid ((Tryz.prog.info? 77).map (·.size) = some cs.size) := by show _ = _; rw [hcs]; exact Tryz.sizeAdr
    have HZO : Hid (zeroAdr.size = cs.size) := by show _ = _; rw [hcs]; rfl
    rw [← hcs] at HON
    have HVE : Hid (V = _) := hV
    clear hcs HSET HAC hV
    go_upto_region 4 with fail
    rw [← HVE.out]
    clear HVE
    go_wp2_with (first | refine wpList_load_row rfl 77 _ rfl (w.heap.size + 1) rfl 77 cs (0, 0) _ HLD.out Tryz.underlying77 rfl HZS.out ?_ | refine wpList_store_row rfl 77 _ _ rfl (w.heap.size + 2) cs rfl rfl 77 zeroAdr HNV.out HZS.out HZO.out HON.out ?_)
    (try simp only [Exit.inBlock, Exit.then])
    have hld := run_loadVar_row (P := Tryz.prog) (V.setRow (w.heap.size + 2) cs) (w.heap.size + 2) 77 77 cs (0, 0) _ (setRow_heap V (w.heap.size + 2) zeroAdr cs 77 (0, 0) HNV.out) Tryz.underlying77 rfl HZS.out
    rw [HE.out]
    have hbf : Below w.heap.size w (V.setRow (w.heap.size + 2) cs) := below_setRow HBV.out (by omega) _
    refine bodyPost_ret (v := .tuple #[.agg cs, .nilIface]) ?_ rfl ⟨⟨bv, by rw [HCS.out], HSR.out _ hbf⟩, hbf⟩
    rw [results_cell_tmp rfl]
    simp [asAddr, Result.andThen, hld]
end Go.Proofs
