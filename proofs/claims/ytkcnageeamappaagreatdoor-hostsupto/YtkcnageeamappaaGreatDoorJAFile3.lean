/-
  What drive and readFileBeside of package address do.
-/
import Derived.Test.YtkcnageeamappaaGreatDoorJAGoOn
namespace Go.Moor
open Go
/-- Path and query of a file that does not begin with two slashes, beside a base. -/
def fileBeside (m : Bs) (q : Option Bs) (b : Adr) : Way × Option Bs :=
  if isDrive (cutSlash (trimSlash m)).1 then (readWay sFile [] m, q)
  else if m.head? = some 47 then (readWay sFile (driveOf b.way.segs) m, q)
  else goOn sFile m q b
end Go.Moor
namespace Go.Proofs
open Go.RowKit Go.Moor

set_option maxHeartbeats 2000000 in
theorem Tryz.drive_any (a : Adr) (v : Value) (w : World) (hv : SegRow w v a.way.segs) (hx : ∀ x ∈ a.way.segs, x.length ≤ 1000000) :
    Calls Tryz.prog 303 #[.agg (adrCells a v)] w fun e w' => (∃ u, e = .returned u ∧ SegRow w u (driveOf a.way.segs) ∧ (∀ g n c, u = .slice (some ⟨g, 0, none⟩) n c → ∃ n2 c2, v = .slice (some ⟨g, 0, none⟩) n2 c2)) ∧ Below w.heap.size w w' := by
  obtain ⟨sc, ⟨us, pa, ha, ho, po⟩, ⟨op, tx, segs⟩, qu, fr⟩ := a
  unfold adrCells
  simp only at hv hx ⊢
  have HB : Hid (∀ o : Obj, Below w.heap.size w (w.alloc o)) := fun o => (Below.refl _ _).alloc (Nat.le_refl _) o
  obtain ⟨⟨sp, cap, rfl, hnc, hcm, hf⟩, htag⟩ := hv
  unfold maxLen at hcm
  generalize qu.isSome = q1 at *
  generalize qu.getD [] = q2 at *
  generalize fr.isSome = f1 at *
  generalize fr.getD [] = f2 at *
  have hnil : SegRow w (.slice none 0 0) [] := ⟨⟨none, 0, rfl, Nat.le_refl _, Nat.zero_le _, fun h => absurd rfl h⟩, fun g n c h => by cases h⟩
  match segs, hnc, hf, hx, htag with
  | [], hnc, _, _, _ =>
    have HE : Hid (SegRow w (.slice none 0 0) (driveOf [])) := hnil
    clear hnil
    show Calls Tryz.prog _ #[.agg #[_, _, _, _, _, _, _, _, .slice sp 0 cap, _, _, _, _]] w _
    go_enter Tryz.func303, Tryz.ntmps303
    go_wp2
    go_ret
    exact ⟨⟨_, rfl, HE.out, fun g n c h => by cases h⟩, HB.out _⟩
  | x :: r, hnc, hf, hx, htag =>
    obtain ⟨g, rfl, hc⟩ := hf (by simp)
    have hcx := hc 0 x rfl
    have hgz : g < w.heap.size := cell_lt hcx
    have HI : Hid (∀ w1, Calls Tryz.prog 287 #[.string ⟨x.toArray⟩] w1 fun e w' => e = .returned (.bool (toldDrive x)) ∧ w' = w1) := fun w1 => Tryz.isToldDrive_any x w1 (by have := hx x (by simp); omega)
    have hc1 : 1 ≤ cap := by simp at hnc; omega
    cases ht : toldDrive x with
    | true =>
      have HE : Hid (SegRow w (.slice (some ⟨g, 0, none⟩) 1 cap) (driveOf (x :: r))) := by
        have e1 : driveOf (x :: r) = [x] := by
          unfold driveOf
          rw [if_pos ⟨by simp, ht⟩]
          rfl
        show SegRow _ _ _
        rw [e1]
        refine ⟨⟨some ⟨g, 0, none⟩, cap, rfl, hc1, by unfold maxLen; omega, fun _ => ⟨g, rfl, fun j y hy => ?_⟩⟩, fun g2 n2 c2 h => by injection h with h _ _; injection h with h; injection h with h _; subst h; exact htag _ _ _ rfl⟩
        cases j with
        | zero => simp at hy; subst hy; exact hcx
        | succ j => simp at hy
      rw [ht] at HI
      clear ht hf hc hx hnil htag
      show Calls Tryz.prog _ #[.agg #[_, _, _, _, _, _, _, _, .slice (some ⟨g, 0, none⟩) (r.length + 1) cap, _, _, _, _]] w _
      have hr1 : r.length + 1 ≤ cap := hnc
      go_enter Tryz.func303, Tryz.ntmps303
      go_wp2_with fail
      refine (HI.out _).mono ?_
      rintro e w' ⟨rfl, hw0⟩
      have hw0 := hw0.symm
      subst hw0
      go_wp2
      go_ret
      exact ⟨⟨_, rfl, HE.out, fun g2 n c h => by injection h with h _ _; injection h with h; injection h with h _; subst h; exact ⟨_, _, rfl⟩⟩, HB.out _⟩
    | false =>
      have HE : Hid (SegRow w (.slice none 0 0) (driveOf (x :: r))) := by
        have e1 : driveOf (x :: r) = [] := by
          unfold driveOf
          rw [if_neg (by simp [ht])]
        show SegRow _ _ _
        rw [e1]
        exact hnil
      rw [ht] at HI
      clear ht hf hc hx hnil htag
      show Calls Tryz.prog _ #[.agg #[_, _, _, _, _, _, _, _, .slice (some ⟨g, 0, none⟩) (r.length + 1) cap, _, _, _, _]] w _
      have hr1 : r.length + 1 ≤ cap := hnc
      go_enter Tryz.func303, Tryz.ntmps303
      go_wp2_with fail
      refine (HI.out _).mono ?_
      rintro e w' ⟨rfl, hw0⟩
      have hw0 := hw0.symm
      subst hw0
      go_wp2
      go_ret
      exact ⟨⟨_, rfl, HE.out, fun g2 n c h => by cases h⟩, HB.out _⟩

/-- Path and query as they are left in the address's block; the rest is as it was. -/
def Tryz.PathRes (k : Nat) (sc : Bs) (c1 c2 c3 c4 c5 c11 c12 : Value) (p : Moor.Way × Option Bs) (w' : World) : Prop :=
  ∃ v, w'.heap[k]? = some (.cells #[.string ⟨sc.toArray⟩, c1, c2, c3, c4, c5, .bool p.1.opaq, .string ⟨p.1.text.toArray⟩, v, .bool p.2.isSome, .string ⟨(p.2.getD []).toArray⟩, c11, c12] 77 (0, 0)) ∧ SegRow w' v p.1.segs
theorem segRow_form {w : World} {sp : Option Go.Addr} {n cap : Nat} {segs : List Bs} (h : SegRow w (.slice sp n cap) segs) : n = segs.length ∧ (segs ≠ [] → ∃ g, sp = some ⟨g, 0, none⟩ ∧ ∀ (j : Nat) x, segs[j]? = some x → w.cell? ⟨g, j, none⟩ = some (.string ⟨x.toArray⟩)) := by
  obtain ⟨⟨sp2, cap2, he, _, _, hf⟩, _⟩ := h
  injection he with e1 e2 e3
  subst e1
  exact ⟨e2, hf⟩
theorem trim_slash (m : Bs) : Lib.trimPrefix m [47] = trimSlash m := by
  unfold Lib.trimPrefix trimSlash Lib.hasPrefix
  cases m with
  | nil => rfl
  | cons c m =>
    by_cases hc : c = 47
    · subst hc; simp
    · have : List.isPrefixOf [47] (c :: m) = false := by simp [List.isPrefixOf]; exact fun h => hc h.symm
      rw [this]
      simp only [Bool.false_eq_true, if_false]
      split
      · rename_i h; injection h with h _; exact absurd h hc
      · rfl
theorem pre_slash (m : Bs) : Lib.hasPrefix m [47] = decide (m.head? = some 47) := by
  cases m with
  | nil => rfl
  | cons c m =>
    simp only [Lib.hasPrefix, List.isPrefixOf, Bool.and_true, List.head?_cons]
    by_cases hc : c = 47
    · subst hc; rfl
    · have : ((47 : UInt8) == c) = false := by rw [beq_eq_false_iff_ne]; exact fun h => hc h.symm
      rw [this]
      simp [hc]
theorem trimSlash_len (m : Bs) : (trimSlash m).length ≤ m.length := by
  unfold trimSlash
  split
  · simp
  · exact Nat.le_refl _

set_option maxHeartbeats 4000000 in
theorem Tryz.readFileBeside_any (k : Nat) (m : Bs) (q : Option Bs) (b : Adr) (bv : Value) (c1 c2 c3 c4 c5 c6 c7 c8 c11 c12 : Value) (w : World) (hm : m.length ≤ 100000)
    (hk : w.heap[k]? = some (.cells #[.string ⟨sFile.toArray⟩, c1, c2, c3, c4, c5, c6, c7, c8, .bool q.isSome, .string ⟨(q.getD []).toArray⟩, c11, c12] 77 (0, 0)))
    (hb : SegRow w bv b.way.segs) (hoff : RowOff k bv) (hbl : b.way.segs.length ≤ 1000000) (hbx : ∀ x ∈ b.way.segs, x.length ≤ 1000000) (henv : Tryz.Env2 w) :
    Calls Tryz.prog 279 #[.pointer (some ⟨k, 0, none⟩), .string ⟨m.toArray⟩, .agg (adrCells b bv)] w fun e w' => e = .returned (.tuple #[]) ∧ But k w w' ∧ Tryz.PathRes k sFile c1 c2 c3 c4 c5 c11 c12 (fileBeside m q b) w' := by
  have hkz : k < w.heap.size := (Array.getElem?_eq_some_iff.1 hk).1
  have HCP : Hid (∀ w1, Calls Tryz.prog 277 #[.string ⟨m.toArray⟩, .string ⟨#[47]⟩] w1 fun e w' => e = .returned (.tuple #[.string ⟨(trimSlash m).toArray⟩, .bool (decide (m.head? = some 47))]) ∧ w' = w1) := fun w1 => by
    have := Tryz.strings_CutPrefix ⟨m.toArray⟩ ⟨#[47]⟩ w1
    rw [show (⟨#[47]⟩ : ByteArray).data.toList = [47] from rfl, show (⟨m.toArray⟩ : ByteArray).data.toList = m from rfl, trim_slash, pre_slash] at this
    exact this
  have HBD : Hid (∀ w1, Calls Tryz.prog 302 #[.string ⟨(trimSlash m).toArray⟩] w1 fun e w' => e = .returned (.bool (isDrive (cutSlash (trimSlash m)).1)) ∧ Below w1.heap.size w1 w') := fun w1 => by
    refine (Tryz.beginsWithDriveLetter_any (trimSlash m) w1 (by have := trimSlash_len m; omega)).mono ?_
    rintro e w' ⟨rfl, n, rfl⟩
    exact ⟨rfl, drew_here _ _ _⟩
  have HRP : Hid (∀ (begun : List Bs) (sp : Option Go.Addr) (cap : Nat) w1, Below w.heap.size w w1 → SegRow w1 (.slice sp begun.length cap) begun → begun.length ≤ 1000000 → (∀ x ∈ begun, x.length ≤ 1000000) → Calls Tryz.prog 163 #[.pointer (some ⟨k, 0, none⟩), .slice sp begun.length cap, .string ⟨m.toArray⟩] w1 fun e w' => e = .returned (.tuple #[]) ∧ But k w w' ∧ Tryz.PathRes k sFile c1 c2 c3 c4 c5 c11 c12 (readWay sFile begun m, q) w') := by
    intro begun sp cap w1 h1 hs hl hx
    refine (Tryz.readPath_any k sFile m c1 c2 c3 c4 c5 c6 c7 c8 _ _ c11 c12 sp cap begun w1 hm hl hx ((h1.block k hkz).trans hk) (segRow_form hs).2 (henv.below h1)).mono ?_
    rintro e w' ⟨rfl, hb', v, h2, h3⟩
    exact ⟨rfl, (But.of_below h1).trans hb', v, h2, own_seg h3⟩
  have HDR : Hid (∀ w1, Below w.heap.size w w1 → Calls Tryz.prog 303 #[.agg (adrCells b bv)] w1 fun e w' => (∃ sp cap, e = .returned (.slice sp (driveOf b.way.segs).length cap) ∧ SegRow w' (.slice sp (driveOf b.way.segs).length cap) (driveOf b.way.segs)) ∧ Below w.heap.size w w') := by
    intro w1 h1
    refine (Tryz.drive_any b bv w1 (segRow_below hb h1) hbx).mono ?_
    rintro e w' ⟨⟨u, rfl, hu, _⟩, hb'⟩
    have hu2 := segRow_below hu hb'
    obtain ⟨⟨sp, cap, rfl, _, _, _⟩, _⟩ := hu
    exact ⟨⟨sp, cap, rfl, hu2⟩, h1.trans (hb'.mono h1.size)⟩
  have HGO : Hid (∀ w1, Below w.heap.size w w1 → Calls Tryz.prog 280 #[.pointer (some ⟨k, 0, none⟩), .string ⟨m.toArray⟩, .agg (adrCells b bv)] w1 fun e w' => e = .returned (.tuple #[]) ∧ But k w w' ∧ Tryz.PathRes k sFile c1 c2 c3 c4 c5 c11 c12 (goOn sFile m q b) w') := by
    intro w1 h1
    refine (Tryz.goOn_any k sFile m q b bv c1 c2 c3 c4 c5 c6 c7 c8 c11 c12 w1 hm ((h1.block k hkz).trans hk) (segRow_below hb h1) hoff hbl hbx (henv.below h1)).mono ?_
    rintro e w' ⟨rfl, hb', hv⟩
    exact ⟨rfl, (But.of_below h1).trans hb', hv⟩
  have HNIL : Hid (∀ w1 : World, SegRow w1 (.slice none 0 0) []) := fun w1 => ⟨⟨none, 0, rfl, Nat.le_refl _, Nat.zero_le _, fun h => absurd rfl h⟩, fun g n c h => by cases h⟩
  have HDL : Hid ((driveOf b.way.segs).length ≤ 1000000 ∧ ∀ x ∈ driveOf b.way.segs, x.length ≤ 1000000) := by
    unfold driveOf
    split
    · exact ⟨by simp; omega, fun x hx => hbx x (List.mem_of_mem_take hx)⟩
    · exact ⟨by simp, fun x hx => by cases hx⟩
  have HE : Hid (fileBeside m q b = if isDrive (cutSlash (trimSlash m)).1 then (readWay sFile [] m, q) else if m.head? = some 47 then (readWay sFile (driveOf b.way.segs) m, q) else goOn sFile m q b) := rfl
  have HAL : Hid (∀ o : Obj, Below w.heap.size w (w.alloc o)) := fun o => (Below.refl _ _).alloc (Nat.le_refl _) o
  generalize hcell : adrCells b bv = AC at *
  have hAC : ∃ x0 x1 x2 x3 x4 x5 x6 x7 x8 x9 x10 x11 x12, AC = #[x0, x1, x2, x3, x4, x5, x6, x7, x8, x9, x10, x11, x12] := ⟨_, _, _, _, _, _, _, _, _, _, _, _, _, hcell.symm⟩
  obtain ⟨x0, x1, x2, x3, x4, x5, x6, x7, x8, x9, x10, x11, x12, rfl⟩ := hAC
  clear hk henv hb hbl hbx hm hoff hcell
  cases hd : isDrive (cutSlash (trimSlash m)).1 with
  | true =>
    have HE2 : Hid (fileBeside m q b = (readWay sFile [] m, q)) := by show _ = _; rw [HE.out, if_pos hd]
    rw [hd] at HBD
    clear hd HE
    generalize trimSlash m = tm at *
    generalize decide (m.head? = some 47) = h47 at *
    go_enter Tryz.func279, Tryz.ntmps279
    go_wp2_with fail
    refine (HCP.out _).mono ?_
    rintro e w1 ⟨rfl, hw1⟩
    have hw1 := hw1.symm
    subst hw1
    go_wp2_with fail
    refine (HBD.out _).mono ?_
    rintro e w2 ⟨rfl, b2⟩
    have hb2 : Below w.heap.size w w2 := (HAL.out _).trans (b2.mono (by simp))
    have HRP2 := HRP.out [] none 0 w2 hb2 (HNIL.out w2) (by simp) (by simp)
    have HRP3 : Hid _ := HRP2
    clear HRP2 b2 hb2
    go_wp2_with fail
    refine Calls.mono HRP3.out ?_
    rintro e w3 ⟨rfl, hb3, hr3⟩
    have HF : Hid _ := And.intro hb3 hr3
    clear hb3 hr3
    go_wp2
    rw [HE2.out]
    exact bodyPost_end (v := .tuple #[]) (results_none rfl _ _ _) rfl ⟨rfl, HF.out.1, HF.out.2⟩
  | false =>
    rw [hd] at HBD
    by_cases h47 : m.head? = some 47
    · have HE2 : Hid (fileBeside m q b = (readWay sFile (driveOf b.way.segs) m, q)) := by show _ = _; rw [HE.out, if_neg (by simp [hd]), if_pos h47]
      rw [decide_eq_true h47] at HCP
      clear hd HE h47
      generalize trimSlash m = tm at *
      go_enter Tryz.func279, Tryz.ntmps279
      go_wp2_with fail
      refine (HCP.out _).mono ?_
      rintro e w1 ⟨rfl, hw1⟩
      have hw1 := hw1.symm
      subst hw1
      go_wp2_with fail
      refine (HBD.out _).mono ?_
      rintro e w2 ⟨rfl, b2⟩
      have hb2 : Below w.heap.size w w2 := (HAL.out _).trans (b2.mono (by simp))
      have hcl : w2.heap[w.heap.size]? = some (.cells #[x0, x1, x2, x3, x4, x5, x6, x7, x8, x9, x10, x11, x12] 77 (0, 0)) := (b2.block w.heap.size (by simp)).trans (alloc_here w _ _)
      have y0 : w2.cell? ⟨w.heap.size, 0, none⟩ = some x0 := cell_heap hcl 0
      have y1 : w2.cell? ⟨w.heap.size, 1, none⟩ = some x1 := cell_heap hcl 1
      have y2 : w2.cell? ⟨w.heap.size, 2, none⟩ = some x2 := cell_heap hcl 2
      have y3 : w2.cell? ⟨w.heap.size, 3, none⟩ = some x3 := cell_heap hcl 3
      have y4 : w2.cell? ⟨w.heap.size, 4, none⟩ = some x4 := cell_heap hcl 4
      have y5 : w2.cell? ⟨w.heap.size, 5, none⟩ = some x5 := cell_heap hcl 5
      have y6 : w2.cell? ⟨w.heap.size, 6, none⟩ = some x6 := cell_heap hcl 6
      have y7 : w2.cell? ⟨w.heap.size, 7, none⟩ = some x7 := cell_heap hcl 7
      have y8 : w2.cell? ⟨w.heap.size, 8, none⟩ = some x8 := cell_heap hcl 8
      have y9 : w2.cell? ⟨w.heap.size, 9, none⟩ = some x9 := cell_heap hcl 9
      have y10 : w2.cell? ⟨w.heap.size, 10, none⟩ = some x10 := cell_heap hcl 10
      have y11 : w2.cell? ⟨w.heap.size, 11, none⟩ = some x11 := cell_heap hcl 11
      have y12 : w2.cell? ⟨w.heap.size, 12, none⟩ = some x12 := cell_heap hcl 12
      have HB2 : Hid (Below w.heap.size w w2) := hb2
      clear b2 hb2 hcl
      go_wp2_with fail
      refine (HDR.out w2 HB2.out).mono ?_
      rintro e w3 ⟨⟨sp, cap, rfl, hs3⟩, b3⟩
      have HRP3 : Hid _ := HRP.out (driveOf b.way.segs) sp cap w3 b3 hs3 HDL.out.1 HDL.out.2
      clear hs3 b3 y0 y1 y2 y3 y4 y5 y6 y7 y8 y9 y10 y11 y12
      go_wp2_with fail
      refine Calls.mono HRP3.out ?_
      rintro e w4 ⟨rfl, hb4, hr4⟩
      have HF : Hid _ := And.intro hb4 hr4
      clear hb4 hr4
      go_wp2
      rw [HE2.out]
      exact bodyPost_end (v := .tuple #[]) (results_none rfl _ _ _) rfl ⟨rfl, HF.out.1, HF.out.2⟩
    · have HE2 : Hid (fileBeside m q b = goOn sFile m q b) := by show _ = _; rw [HE.out, if_neg (by simp [hd]), if_neg h47]
      rw [decide_eq_false h47] at HCP
      clear hd HE h47
      generalize trimSlash m = tm at *
      go_enter Tryz.func279, Tryz.ntmps279
      go_wp2_with fail
      refine (HCP.out _).mono ?_
      rintro e w1 ⟨rfl, hw1⟩
      have hw1 := hw1.symm
      subst hw1
      go_wp2_with fail
      refine (HBD.out _).mono ?_
      rintro e w2 ⟨rfl, b2⟩
      have hb2 : Below w.heap.size w w2 := (HAL.out _).trans (b2.mono (by simp))
      have hcl : w2.heap[w.heap.size]? = some (.cells #[x0, x1, x2, x3, x4, x5, x6, x7, x8, x9, x10, x11, x12] 77 (0, 0)) := (b2.block w.heap.size (by simp)).trans (alloc_here w _ _)
      have y0 : w2.cell? ⟨w.heap.size, 0, none⟩ = some x0 := cell_heap hcl 0
      have y1 : w2.cell? ⟨w.heap.size, 1, none⟩ = some x1 := cell_heap hcl 1
      have y2 : w2.cell? ⟨w.heap.size, 2, none⟩ = some x2 := cell_heap hcl 2
      have y3 : w2.cell? ⟨w.heap.size, 3, none⟩ = some x3 := cell_heap hcl 3
      have y4 : w2.cell? ⟨w.heap.size, 4, none⟩ = some x4 := cell_heap hcl 4
      have y5 : w2.cell? ⟨w.heap.size, 5, none⟩ = some x5 := cell_heap hcl 5
      have y6 : w2.cell? ⟨w.heap.size, 6, none⟩ = some x6 := cell_heap hcl 6
      have y7 : w2.cell? ⟨w.heap.size, 7, none⟩ = some x7 := cell_heap hcl 7
      have y8 : w2.cell? ⟨w.heap.size, 8, none⟩ = some x8 := cell_heap hcl 8
      have y9 : w2.cell? ⟨w.heap.size, 9, none⟩ = some x9 := cell_heap hcl 9
      have y10 : w2.cell? ⟨w.heap.size, 10, none⟩ = some x10 := cell_heap hcl 10
      have y11 : w2.cell? ⟨w.heap.size, 11, none⟩ = some x11 := cell_heap hcl 11
      have y12 : w2.cell? ⟨w.heap.size, 12, none⟩ = some x12 := cell_heap hcl 12
      have HGO2 : Hid _ := HGO.out w2 hb2
      clear b2 hb2 hcl
      go_wp2_with fail
      refine Calls.mono HGO2.out ?_
      rintro e w3 ⟨rfl, hb3, hr3⟩
      have HF : Hid _ := And.intro hb3 hr3
      clear hb3 hr3
      go_wp2
      rw [HE2.out]
      exact bodyPost_end (v := .tuple #[]) (results_none rfl _ _ _) rfl ⟨rfl, HF.out.1, HF.out.2⟩
end Go.Proofs
/-
  What readFile of package address does to the address that it is handed.
-/
namespace Go.Proofs
open Go.RowKit Go.Moor

/-- A base behind a pointer, in another block than k, or none. -/
def Tryz.BaseOk (w : World) (k : Nat) (p : Option Go.Addr) (ob : Option Adr) : Prop :=
  match ob with
  | none => p = none
  | some b => ∃ kb bv, p = some ⟨kb, 0, none⟩ ∧ kb ≠ k ∧ w.heap[kb]? = some (.cells (adrCells b bv) 77 (0, 0)) ∧ SegRow w bv b.way.segs ∧ RowOff k bv ∧ b.way.segs.length ≤ 1000000 ∧ ∀ x ∈ b.way.segs, x.length ≤ 1000000
theorem Tryz.BaseOk.but {w w' : World} {k : Nat} {p : Option Go.Addr} {ob : Option Adr} (h : Tryz.BaseOk w k p ob) (hb : But k w w') : Tryz.BaseOk w' k p ob := by
  cases ob with
  | none => exact h
  | some b =>
    obtain ⟨kb, bv, h1, h2, h3, h4, h5, h6, h7⟩ := h
    exact ⟨kb, bv, h1, h2, (hb.block kb (Array.getElem?_eq_some_iff.1 h3).1 h2).trans h3, segRow_but h4 hb h5, h5, h6, h7⟩
theorem Tryz.BaseOk.below {w w' : World} {k : Nat} {p : Option Go.Addr} {ob : Option Adr} (h : Tryz.BaseOk w k p ob) (hb : Below w.heap.size w w') : Tryz.BaseOk w' k p ob := h.but (But.of_below hb)
/-- The block is one of thirteen plain cells. -/
def Tryz.Thirteen (k : Nat) (w' : World) : Prop := ∃ cs : Array Value, w'.heap[k]? = some (.cells cs 77 (0, 0)) ∧ cs.size = 13 ∧ cs.all (·.oneCell') = true
theorem thirteen_one (c0 c1 c2 c3 c4 c5 c6 c7 c8 c9 c10 c11 c12 : Value) (h : (c0.oneCell' && c1.oneCell' && c2.oneCell' && c3.oneCell' && c4.oneCell' && c5.oneCell' && c6.oneCell' && c7.oneCell' && c8.oneCell' && c9.oneCell' && c10.oneCell' && c11.oneCell' && c12.oneCell') = true) : (#[c0, c1, c2, c3, c4, c5, c6, c7, c8, c9, c10, c11, c12] : Array Value).all (·.oneCell') = true := by
  simp only [Bool.and_eq_true] at h
  simp [h]
/-- Authority, path and query as they are left in the address's block, or the error. -/
def Tryz.MidRes (k : Nat) (sc : Bs) (c11 c12 : Value) (o : Except Int (Auth × Moor.Way × Option Bs)) (e : Ending) (w' : World) : Prop :=
  match o with
  | .error n => ∃ x y te ve, e = .returned (.iface 96 (.agg #[.int .i64 n, .string x, .string y, .iface te ve]))
  | .ok (a, y, q) => e = .returned .nilIface ∧ ∃ v, w'.heap[k]? = some (.cells #[.string ⟨sc.toArray⟩, .string ⟨a.user.toArray⟩, .string ⟨a.pass.toArray⟩, .bool a.has, .string ⟨a.host.toArray⟩, .int .i64 a.port, .bool y.opaq, .string ⟨y.text.toArray⟩, v, .bool q.isSome, .string ⟨(q.getD []).toArray⟩, c11, c12] 77 (0, 0)) ∧ SegRow w' v y.segs
theorem Tryz.midRes_ret {k : Nat} {sc : Bs} {c11 c12 : Value} {o : Except Int (Auth × Moor.Way × Option Bs)} {e : Ending} {w' : World} (h : Tryz.MidRes k sc c11 c12 o e w') : ∃ v, e = .returned v := by
  cases o with
  | error n => obtain ⟨x, y, te, ve, rfl⟩ := h; exact ⟨_, rfl⟩
  | ok p =>
    obtain ⟨a, y, q⟩ := p
    obtain ⟨rfl, _⟩ := h
    exact ⟨_, rfl⟩
theorem Tryz.fileRes_ret {k : Nat} {sc : Bs} {c1 c2 c3 c5 c9 c10 c11 c12 : Value} {B : Nat} {o : Except Int (Value × List Bs)} {e : Ending} {w' : World} (h : Tryz.FileRes k sc c1 c2 c3 c5 c9 c10 c11 c12 B o e w') : ∃ v, e = .returned v := by
  cases o with
  | error n => obtain ⟨x, y, te, ve, rfl⟩ := h; exact ⟨_, rfl⟩
  | ok p => obtain ⟨a, y⟩ := p; obtain ⟨rfl, _⟩ := h; exact ⟨_, rfl⟩

set_option maxHeartbeats 4000000 in
theorem Tryz.readFile_any (k : Nat) (m : Bs) (q : Option Bs) (ob : Option Adr) (bp : Option Go.Addr) (c6 c7 c8 c11 c12 : Value) (w : World) (hm : m.length ≤ 100000)
    (hk : w.heap[k]? = some (.cells #[.string ⟨sFile.toArray⟩, .string ⟨#[]⟩, .string ⟨#[]⟩, .bool false, .string ⟨#[]⟩, .int .i64 (-1), c6, c7, c8, .bool q.isSome, .string ⟨(q.getD []).toArray⟩, c11, c12] 77 (0, 0)))
    (h1c : (c6.oneCell' && c7.oneCell' && c8.oneCell' && c11.oneCell' && c12.oneCell') = true) (hkg : 29 ≤ k) (hbase : Tryz.BaseOk w k bp ob) (henv : Tryz.Env2 w) :
    Calls Tryz.prog 244 #[.pointer (some ⟨k, 0, none⟩), .string ⟨m.toArray⟩, .pointer bp] w fun e w' => But k w w' ∧ Tryz.MidRes k sFile c11 c12 (readFile hostTell m q ob) e w' ∧ (∀ n, readFile hostTell m q ob = .error n → Tryz.Thirteen k w') := by
  have hkz : k < w.heap.size := (Array.getElem?_eq_some_iff.1 hk).1
  have j3 : w.cell? ⟨k, 3, none⟩ = some (.bool false) := cell_heap hk 3
  have i3 := frozen_heap hk 3
  have g3 := heap_setCell_same w k 3 _ 77 (.bool true) hk
  obtain ⟨W, hW⟩ : ∃ W, W = w.setCell ⟨k, 3, none⟩ (.bool true) := ⟨_, rfl⟩
  rw [← hW] at g3
  have H13 : Hid (Tryz.Thirteen k W) := ⟨_, g3, rfl, thirteen_one _ _ _ _ _ _ _ _ _ _ _ _ _ (by simp only [Bool.and_eq_true] at h1c; obtain ⟨⟨⟨⟨a6, a7⟩, a8⟩, a11⟩, a12⟩ := h1c; rw [a6, a7, a8, a11, a12]; rfl)⟩
  clear h1c
  have hBU : But k w W := by rw [hW]; exact (But.of_below (Below.refl _ _)).setCell 3 _
  have HBU : Hid (But k w W) := hBU
  have hVW := henv.but hBU hkg
  have HCP : Hid (Calls Tryz.prog 277 #[.string ⟨m.toArray⟩, .string ⟨#[47, 47]⟩] W fun e w' => e = .returned (.tuple #[.string ⟨(Lib.trimPrefix m [47, 47]).toArray⟩, .bool (Lib.hasPrefix m [47, 47])]) ∧ w' = W) := Tryz.strings_CutPrefix ⟨m.toArray⟩ ⟨#[47, 47]⟩ W
  cases h2 : List.isPrefixOf [47, 47] m with
  | true =>
    have ht : Lib.trimPrefix m [47, 47] = m.drop 2 := by unfold Lib.trimPrefix; rw [two_pre, h2]; rfl
    rw [ht, two_pre, h2] at HCP
    have HE : Hid (readFile hostTell m q ob = match fileRead sFile (m.drop 2) (.string ⟨#[]⟩) with | .error n => .error n | .ok p => .ok (fileAuth (if isDrive (cutSlash (m.drop 2)).1 then [] else ((fileHost hostTell (cutSlash (m.drop 2)).1).getD [])), ⟨false, [], p.2⟩, q)) := by
      show _ = _
      unfold readFile fileRead
      rw [if_pos h2]
      simp only
      cases hd : isDrive (cutSlash (m.drop 2)).1 with
      | true => rfl
      | false =>
        simp only [Bool.false_eq_true, if_false]
        cases hfh : fileHost hostTell (cutSlash (m.drop 2)).1 with
        | none => rfl
        | some h => rfl
    have HFH : Hid (Calls Tryz.prog 278 #[.pointer (some ⟨k, 0, none⟩), .string ⟨(m.drop 2).toArray⟩] W fun e w' => But k W w' ∧ Tryz.FileRes k sFile (.string ⟨#[]⟩) (.string ⟨#[]⟩) (.bool true) (.int .i64 (-1)) (.bool q.isSome) (.string ⟨(q.getD []).toArray⟩) c11 c12 W.heap.size (fileRead sFile (m.drop 2) (.string ⟨#[]⟩)) e w' ∧ (∀ n, fileRead sFile (m.drop 2) (.string ⟨#[]⟩) = .error n → w'.heap[k]? = W.heap[k]?)) := Tryz.readFileHost_any k sFile (m.drop 2) _ _ _ _ _ c6 c7 c8 _ _ c11 c12 W (by rw [List.length_drop]; omega) g3 hkg hVW
    clear h2 ht hk henv g3 hVW hBU hbase
    go_enter Tryz.func244, Tryz.ntmps244
    go_wp2_with fail
    rw [← hW]
    refine HCP.out.mono ?_
    rintro e w1 ⟨rfl, hw0⟩
    have hw0 := hw0.symm
    subst hw0
    clear hW
    go_wp2_with fail
    refine HFH.out.mono ?_
    rintro e w2 ⟨hb, hr, hx⟩
    obtain ⟨ev, rfl⟩ := Tryz.fileRes_ret hr
    have HX : Hid (∀ n, readFile hostTell m q ob = .error n → Tryz.Thirteen k w2) := by
      intro n hn
      rw [HE.out] at hn
      cases hfr : fileRead sFile (m.drop 2) (.string ⟨#[]⟩) with
      | error n2 =>
        obtain ⟨cs, h1, h2⟩ := H13.out
        exact ⟨cs, (hx n2 hfr).trans h1, h2⟩
      | ok p => rw [hfr] at hn; cases hn
    have HF : Hid (Tryz.MidRes k sFile c11 c12 (readFile hostTell m q ob) (.returned ev) w2) := by
      show Tryz.MidRes _ _ _ _ _ _ _
      rw [HE.out]
      unfold fileRead at hr ⊢
      cases hd : isDrive (cutSlash (m.drop 2)).1 with
      | true =>
        rw [hd] at hr
        obtain ⟨h1, v, h3, h4⟩ := hr
        exact ⟨h1, v, h3, own_seg h4⟩
      | false =>
        rw [hd] at hr
        simp only [Bool.false_eq_true, if_false] at hr ⊢
        cases hfh : fileHost hostTell (cutSlash (m.drop 2)).1 with
        | none => rw [hfh] at hr; exact hr
        | some h =>
          rw [hfh] at hr
          obtain ⟨h1, v, h3, h4⟩ := hr
          exact ⟨h1, v, h3, own_seg h4⟩
    have HB : Hid (But k w w2) := HBU.out.trans hb
    clear hr hb hx
    go_wp2
    go_ret
    exact ⟨HB.out, HF.out, HX.out⟩
  | false =>
    rw [two_pre, h2] at HCP
    cases ob with
    | none =>
      have hbp : bp = none := hbase
      subst hbp
      have HE : Hid (readFile hostTell m q none = .ok (fileAuth [], readWay sFile [] m, q)) := by show _ = _; unfold readFile; rw [if_neg (by simp [h2])]
      have HRP : Hid (Calls Tryz.prog 163 #[.pointer (some ⟨k, 0, none⟩), .slice none 0 0, .string ⟨m.toArray⟩] W fun e w' => e = .returned (.tuple #[]) ∧ But k W w' ∧ ∃ v, w'.heap[k]? = some (.cells #[.string ⟨sFile.toArray⟩, .string ⟨#[]⟩, .string ⟨#[]⟩, .bool true, .string ⟨#[]⟩, .int .i64 (-1), .bool false, .string ⟨#[]⟩, v, .bool q.isSome, .string ⟨(q.getD []).toArray⟩, c11, c12] 77 (0, 0)) ∧ w'.ownsRow W.heap.size 9 1 v (readSegs sFile [] m).length (strs (readSegs sFile [] m))) := Tryz.readPath_any k sFile m _ _ _ _ _ c6 c7 c8 _ _ c11 c12 none 0 [] W hm (by simp) (by simp) g3 (by simp) hVW
      clear h2 hk henv g3 hVW hBU hbase
      generalize Lib.trimPrefix m [47, 47] = tp at *
      go_enter Tryz.func244, Tryz.ntmps244
      go_wp2_with fail
      rw [← hW]
      refine HCP.out.mono ?_
      rintro e w1 ⟨rfl, hw0⟩
      have hw0 := hw0.symm
      subst hw0
      clear hW
      go_wp2_with fail
      refine HRP.out.mono ?_
      rintro e w2 ⟨rfl, hb, v, h3, h4⟩
      have HF : Hid (Tryz.MidRes k sFile c11 c12 (.ok (fileAuth [], readWay sFile [] m, q)) (.returned .nilIface) w2) := ⟨rfl, v, h3, own_seg h4⟩
      have HB : Hid (But k w w2) := HBU.out.trans hb
      clear h3 h4 hb
      go_wp2
      go_ret
      rw [HE.out]
      exact ⟨HB.out, HF.out, fun n h => by cases h⟩
    | some b =>
      have hbW := hbase.but hBU
      obtain ⟨kb, bv, rfl, hkb, hcl, hsr, hoff, hbl, hbx⟩ := hbW
      have HE : Hid (readFile hostTell m q (some b) = .ok (fileAuth b.auth.host, (fileBeside m q b).1, (fileBeside m q b).2)) := by
        show _ = _
        unfold readFile fileBeside
        rw [if_neg (by simp [h2])]
        simp only
        cases hd : isDrive (cutSlash (trimSlash m)).1 with
        | true => rfl
        | false =>
          simp only [Bool.false_eq_true, if_false]
          split <;> rfl
      have hwkb : W.heap[kb]? = some (.cells (adrCells b bv) 77 (0, 0)) := hcl
      have b4 : W.cell? ⟨kb, 4, none⟩ = some (.string ⟨b.auth.host.toArray⟩) := cell_heap hcl 4
      have k4 : W.cell? ⟨k, 4, none⟩ = some (.string ⟨#[]⟩) := cell_heap g3 4
      have f4 := frozen_heap g3 4
      have g4 := heap_setCell_same W k 4 _ 77 (.string ⟨b.auth.host.toArray⟩) g3
      obtain ⟨V, hV⟩ : ∃ V, V = W.setCell ⟨k, 4, none⟩ (.string ⟨b.auth.host.toArray⟩) := ⟨_, rfl⟩
      rw [← hV] at g4
      have hBV : But k W V := by rw [hV]; exact (But.of_below (Below.refl _ _)).setCell 4 _
      have hclV : V.heap[kb]? = some (.cells (adrCells b bv) 77 (0, 0)) := (hBV.block kb (Array.getElem?_eq_some_iff.1 hcl).1 hkb).trans hcl
      have HRB : Hid (Calls Tryz.prog 279 #[.pointer (some ⟨k, 0, none⟩), .string ⟨m.toArray⟩, .agg (adrCells b bv)] V fun e w' => e = .returned (.tuple #[]) ∧ But k V w' ∧ Tryz.PathRes k sFile (.string ⟨#[]⟩) (.string ⟨#[]⟩) (.bool true) (.string ⟨b.auth.host.toArray⟩) (.int .i64 (-1)) c11 c12 (fileBeside m q b) w') := Tryz.readFileBeside_any k m q b bv _ _ _ _ _ c6 c7 c8 c11 c12 V hm g4 (segRow_but hsr hBV hoff) hoff hbl hbx (hVW.but hBV hkg)
      have HBV : Hid (But k w V) := HBU.out.trans hBV
      generalize hcell : adrCells b bv = AC at *
      have hAC : ∃ x0 x1 x2 x3 x4 x5 x6 x7 x8 x9 x10 x11 x12, AC = #[x0, x1, x2, x3, x4, x5, x6, x7, x8, x9, x10, x11, x12] := ⟨_, _, _, _, _, _, _, _, _, _, _, _, _, hcell.symm⟩
      obtain ⟨x0, x1, x2, x3, x4, x5, x6, x7, x8, x9, x10, x11, x12, rfl⟩ := hAC
      have y0 : W.cell? ⟨kb, 0, none⟩ = some x0 := cell_heap hcl 0
      have y1 : W.cell? ⟨kb, 1, none⟩ = some x1 := cell_heap hcl 1
      have y2 : W.cell? ⟨kb, 2, none⟩ = some x2 := cell_heap hcl 2
      have y3 : W.cell? ⟨kb, 3, none⟩ = some x3 := cell_heap hcl 3
      have y4 : W.cell? ⟨kb, 4, none⟩ = some x4 := cell_heap hcl 4
      have y5 : W.cell? ⟨kb, 5, none⟩ = some x5 := cell_heap hcl 5
      have y6 : W.cell? ⟨kb, 6, none⟩ = some x6 := cell_heap hcl 6
      have y7 : W.cell? ⟨kb, 7, none⟩ = some x7 := cell_heap hcl 7
      have y8 : W.cell? ⟨kb, 8, none⟩ = some x8 := cell_heap hcl 8
      have y9 : W.cell? ⟨kb, 9, none⟩ = some x9 := cell_heap hcl 9
      have y10 : W.cell? ⟨kb, 10, none⟩ = some x10 := cell_heap hcl 10
      have y11 : W.cell? ⟨kb, 11, none⟩ = some x11 := cell_heap hcl 11
      have y12 : W.cell? ⟨kb, 12, none⟩ = some x12 := cell_heap hcl 12
      have hkb2 : k ≠ kb := fun h => hkb h.symm
      clear b4
      have b4 : (Value.string ⟨b.auth.host.toArray⟩) = x4 := by simp only [adrCells, Array.mk.injEq, List.cons.injEq] at hcell; exact hcell.2.2.2.2.1
      subst b4
      clear h2 hk henv g3 hVW hBU hbase hcl hsr hoff hbl hbx hclV hBV hcell hwkb g4
      generalize Lib.trimPrefix m [47, 47] = tp at *
      generalize hhost : (⟨b.auth.host.toArray⟩ : ByteArray) = host at *
      have HH : Hid ((⟨b.auth.host.toArray⟩ : ByteArray) = host) := hhost
      clear hhost
      go_enter Tryz.func244, Tryz.ntmps244
      go_wp2_with fail
      rw [← hW]
      refine HCP.out.mono ?_
      rintro e w1 ⟨rfl, hw0⟩
      have hw0 := hw0.symm
      subst hw0
      clear hW
      go_wp2_with fail
      rw [← hV]
      clear hV
      refine Calls.mono HRB.out ?_
      rintro e w2 ⟨rfl, hb, hr⟩
      have HF : Hid (But k w w2 ∧ Tryz.MidRes k sFile c11 c12 (.ok (fileAuth b.auth.host, (fileBeside m q b).1, (fileBeside m q b).2)) (.returned .nilIface) w2) := by
        refine ⟨HBV.out.trans hb, rfl, ?_⟩
        rw [← HH.out] at hr
        exact hr
      clear hb hr
      go_wp2
      go_ret
      rw [HE.out]
      exact ⟨HF.out.1, HF.out.2, fun n h => by cases h⟩
end Go.Proofs
