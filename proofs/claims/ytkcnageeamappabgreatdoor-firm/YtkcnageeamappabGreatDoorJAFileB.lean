/-
  What drive and readFileBeside of package address do.
-/
import Derived.Test.YtkcnageeamappabGreatDoorJAGoOn
namespace Go.Moor
open Go
/-- Path and query of a file that does not begin with two slashes, beside a base. -/
def fileBeside (m : Bs) (q : Option Bs) (b : Adr) : Way × Option Bs :=
  if isDrive (cutSlash (trimSlash m)).1 then (readWay sFile [] m, q)
  else if m.head? = some 47 then (readWay sFile (driveOf b.way.segs) m, q)
  else goOn sFile m q b
end Go.Moor
namespace Go.Proofs
open Go.RowKit Go.Moor

set_option maxHeartbeats 2000000 in
theorem Tryz.drive_any (a : Adr) (v : Value) (w : World) (hv : SegRow w v a.way.segs) (hx : ∀ x ∈ a.way.segs, x.length ≤ 1000000) :
    Calls Tryz.prog 213 #[.agg (adrCells a v)] w fun e w' => (∃ u, e = .returned u ∧ SegRow w u (driveOf a.way.segs) ∧ (∀ g n c, u = .slice (some ⟨g, 0, none⟩) n c → ∃ n2 c2, v = .slice (some ⟨g, 0, none⟩) n2 c2)) ∧ Below w.heap.size w w' := by
  obtain ⟨sc, ⟨us, pa, ha, ho, po⟩, ⟨op, tx, segs⟩, qu, fr⟩ := a
  unfold adrCells
  simp only at hv hx ⊢
  have HB : Hid (∀ o : Obj, Below w.heap.size w (w.alloc o)) := fun o => (Below.refl _ _).alloc (Nat.le_refl _) o
  obtain ⟨⟨sp, cap, rfl, hnc, hcm, hf⟩, htag⟩ := hv
  unfold maxLen at hcm
  generalize qu.isSome = q1 at *
  generalize qu.getD [] = q2 at *
  generalize fr.isSome = f1 at *
  generalize fr.getD [] = f2 at *
  have hnil : SegRow w (.slice none 0 0) [] := ⟨⟨none, 0, rfl, Nat.le_refl _, Nat.zero_le _, fun h => absurd rfl h⟩, fun g n c h => by cases h⟩
  match segs, hnc, hf, hx, htag with
  | [], hnc, _, _, _ =>
    have HE : Hid (SegRow w (.slice none 0 0) (driveOf [])) := hnil
    clear hnil
    show Calls Tryz.prog _ #[.agg #[_, _, _, _, _, _, _, _, .slice sp 0 cap, _, _, _, _]] w _
    go_enter Tryz.func213, Tryz.ntmps213
    go_wp2
    go_ret
    exact ⟨⟨_, rfl, HE.out, fun g n c h => by cases h⟩, HB.out _⟩
  | x :: r, hnc, hf, hx, htag =>
    obtain ⟨g, rfl, hc⟩ := hf (by simp)
    have hcx := hc 0 x rfl
    have hgz : g < w.heap.size := cell_lt hcx
    have HI : Hid (∀ w1, Calls Tryz.prog 202 #[.string ⟨x.toArray⟩] w1 fun e w' => e = .returned (.bool (toldDrive x)) ∧ w' = w1) := fun w1 => Tryz.isToldDrive_any x w1 (by have := hx x (by simp); omega)
    have hc1 : 1 ≤ cap := by simp at hnc; omega
    cases ht : toldDrive x with
    | true =>
      have HE : Hid (SegRow w (.slice (some ⟨g, 0, none⟩) 1 cap) (driveOf (x :: r))) := by
        have e1 : driveOf (x :: r) = [x] := by
          unfold driveOf
          rw [if_pos ⟨by simp, ht⟩]
          rfl
        show SegRow _ _ _
        rw [e1]
        refine ⟨⟨some ⟨g, 0, none⟩, cap, rfl, hc1, by unfold maxLen; omega, fun _ => ⟨g, rfl, fun j y hy => ?_⟩⟩, fun g2 n2 c2 h => by injection h with h _ _; injection h with h; injection h with h _; subst h; exact htag _ _ _ rfl⟩
        cases j with
        | zero => simp at hy; subst hy; exact hcx
        | succ j => simp at hy
      rw [ht] at HI
      clear ht hf hc hx hnil htag
      show Calls Tryz.prog _ #[.agg #[_, _, _, _, _, _, _, _, .slice (some ⟨g, 0, none⟩) (r.length + 1) cap, _, _, _, _]] w _
      have hr1 : r.length + 1 ≤ cap := hnc
      go_enter Tryz.func213, Tryz.ntmps213
      go_wp2_with fail
      refine (HI.out _).mono ?_
      rintro e w' ⟨rfl, hw0⟩
      have hw0 := hw0.symm
      subst hw0
      go_wp2
      go_ret
      exact ⟨⟨_, rfl, HE.out, fun g2 n c h => by injection h with h _ _; injection h with h; injection h with h _; subst h; exact ⟨_, _, rfl⟩⟩, HB.out _⟩
    | false =>
      have HE : Hid (SegRow w (.slice none 0 0) (driveOf (x :: r))) := by
        have e1 : driveOf (x :: r) = [] := by
          unfold driveOf
          rw [if_neg (by simp [ht])]
        show SegRow _ _ _
        rw [e1]
        exact hnil
      rw [ht] at HI
      clear ht hf hc hx hnil htag
      show Calls Tryz.prog _ #[.agg #[_, _, _, _, _, _, _, _, .slice (some ⟨g, 0, none⟩) (r.length + 1) cap, _, _, _, _]] w _
      have hr1 : r.length + 1 ≤ cap := hnc
      go_enter Tryz.func213, Tryz.ntmps213
      go_wp2_with fail
      refine (HI.out _).mono ?_
      rintro e w' ⟨rfl, hw0⟩
      have hw0 := hw0.symm
      subst hw0
      go_wp2
      go_ret
      exact ⟨⟨_, rfl, HE.out, fun g2 n c h => by cases h⟩, HB.out _⟩

/-- Path and query as they are left in the address's block; the rest is as it was. -/
def Tryz.PathRes (k : Nat) (sc : Bs) (c1 c2 c3 c4 c5 c11 c12 : Value) (p : Moor.Way × Option Bs) (w' : World) : Prop :=
  ∃ v, w'.heap[k]? = some (.cells #[.string ⟨sc.toArray⟩, c1, c2, c3, c4, c5, .bool p.1.opaq, .string ⟨p.1.text.toArray⟩, v, .bool p.2.isSome, .string ⟨(p.2.getD []).toArray⟩, c11, c12] 52 (0, 0)) ∧ SegRow w' v p.1.segs
theorem segRow_form {w : World} {sp : Option Go.Addr} {n cap : Nat} {segs : List Bs} (h : SegRow w (.slice sp n cap) segs) : n = segs.length ∧ (segs ≠ [] → ∃ g, sp = some ⟨g, 0, none⟩ ∧ ∀ (j : Nat) x, segs[j]? = some x → w.cell? ⟨g, j, none⟩ = some (.string ⟨x.toArray⟩)) := by
  obtain ⟨⟨sp2, cap2, he, _, _, hf⟩, _⟩ := h
  injection he with e1 e2 e3
  subst e1
  exact ⟨e2, hf⟩
theorem trim_slash (m : Bs) : Lib.trimPrefix m [47] = trimSlash m := by
  unfold Lib.trimPrefix trimSlash Lib.hasPrefix
  cases m with
  | nil => rfl
  | cons c m =>
    by_cases hc : c = 47
    · subst hc; simp
    · have : List.isPrefixOf [47] (c :: m) = false := by simp [List.isPrefixOf]; exact fun h => hc h.symm
      rw [this]
      simp only [Bool.false_eq_true, if_false]
      split
      · rename_i h; injection h with h _; exact absurd h hc
      · rfl
theorem pre_slash (m : Bs) : Lib.hasPrefix m [47] = decide (m.head? = some 47) := by
  cases m with
  | nil => rfl
  | cons c m =>
    simp only [Lib.hasPrefix, List.isPrefixOf, Bool.and_true, List.head?_cons]
    by_cases hc : c = 47
    · subst hc; rfl
    · have : ((47 : UInt8) == c) = false := by rw [beq_eq_false_iff_ne]; exact fun h => hc h.symm
      rw [this]
      simp [hc]
theorem trimSlash_len (m : Bs) : (trimSlash m).length ≤ m.length := by
  unfold trimSlash
  split
  · simp
  · exact Nat.le_refl _

set_option maxHeartbeats 4000000 in
theorem Tryz.readFileBeside_any (k : Nat) (m : Bs) (q : Option Bs) (b : Adr) (bv : Value) (c1 c2 c3 c4 c5 c6 c7 c8 c11 c12 : Value) (w : World) (hm : m.length ≤ 100000)
    (hk : w.heap[k]? = some (.cells #[.string ⟨sFile.toArray⟩, c1, c2, c3, c4, c5, c6, c7, c8, .bool q.isSome, .string ⟨(q.getD []).toArray⟩, c11, c12] 52 (0, 0)))
    (hb : SegRow w bv b.way.segs) (hoff : RowOff k bv) (hbl : b.way.segs.length ≤ 1000000) (hbx : ∀ x ∈ b.way.segs, x.length ≤ 1000000) (henv : Tryz.Env2 w) :
    Calls Tryz.prog 189 #[.pointer (some ⟨k, 0, none⟩), .string ⟨m.toArray⟩, .agg (adrCells b bv)] w fun e w' => e = .returned (.tuple #[]) ∧ But k w w' ∧ Tryz.PathRes k sFile c1 c2 c3 c4 c5 c11 c12 (fileBeside m q b) w' := by
  have hkz : k < w.heap.size := (Array.getElem?_eq_some_iff.1 hk).1
  have HCP : Hid (∀ w1, Calls Tryz.prog 187 #[.string ⟨m.toArray⟩, .string ⟨#[47]⟩] w1 fun e w' => e = .returned (.tuple #[.string ⟨(trimSlash m).toArray⟩, .bool (decide (m.head? = some 47))]) ∧ w' = w1) := fun w1 => by
    have := Tryz.strings_CutPrefix ⟨m.toArray⟩ ⟨#[47]⟩ w1
    rw [show (⟨#[47]⟩ : ByteArray).data.toList = [47] from rfl, show (⟨m.toArray⟩ : ByteArray).data.toList = m from rfl, trim_slash, pre_slash] at this
    exact this
  have HBD : Hid (∀ w1, Calls Tryz.prog 212 #[.string ⟨(trimSlash m).toArray⟩] w1 fun e w' => e = .returned (.bool (isDrive (cutSlash (trimSlash m)).1)) ∧ Below w1.heap.size w1 w') := fun w1 => by
    refine (Tryz.beginsWithDriveLetter_any (trimSlash m) w1 (by have := trimSlash_len m; omega)).mono ?_
    rintro e w' ⟨rfl, n, rfl⟩
    exact ⟨rfl, drew_here _ _ _⟩
  have HRP : Hid (∀ (begun : List Bs) (sp : Option Go.Addr) (cap : Nat) w1, Below w.heap.size w w1 → SegRow w1 (.slice sp begun.length cap) begun → begun.length ≤ 1000000 → (∀ x ∈ begun, x.length ≤ 1000000) → Calls Tryz.prog 88 #[.pointer (some ⟨k, 0, none⟩), .slice sp begun.length cap, .string ⟨m.toArray⟩] w1 fun e w' => e = .returned (.tuple #[]) ∧ But k w w' ∧ Tryz.PathRes k sFile c1 c2 c3 c4 c5 c11 c12 (readWay sFile begun m, q) w') := by
    intro begun sp cap w1 h1 hs hl hx
    refine (Tryz.readPath_any k sFile m c1 c2 c3 c4 c5 c6 c7 c8 _ _ c11 c12 sp cap begun w1 hm hl hx ((h1.block k hkz).trans hk) (segRow_form hs).2 (henv.below h1)).mono ?_
    rintro e w' ⟨rfl, hb', v, h2, h3⟩
    exact ⟨rfl, (But.of_below h1).trans hb', v, h2, own_seg h3⟩
  have HDR : Hid (∀ w1, Below w.heap.size w w1 → Calls Tryz.prog 213 #[.agg (adrCells b bv)] w1 fun e w' => (∃ sp cap, e = .returned (.slice sp (driveOf b.way.segs).length cap) ∧ SegRow w' (.slice sp (driveOf b.way.segs).length cap) (driveOf b.way.segs)) ∧ Below w.heap.size w w') := by
    intro w1 h1
    refine (Tryz.drive_any b bv w1 (segRow_below hb h1) hbx).mono ?_
    rintro e w' ⟨⟨u, rfl, hu, _⟩, hb'⟩
    have hu2 := segRow_below hu hb'
    obtain ⟨⟨sp, cap, rfl, _, _, _⟩, _⟩ := hu
    exact ⟨⟨sp, cap, rfl, hu2⟩, h1.trans (hb'.mono h1.size)⟩
  have HGO : Hid (∀ w1, Below w.heap.size w w1 → Calls Tryz.prog 190 #[.pointer (some ⟨k, 0, none⟩), .string ⟨m.toArray⟩, .agg (adrCells b bv)] w1 fun e w' => e = .returned (.tuple #[]) ∧ But k w w' ∧ Tryz.PathRes k sFile c1 c2 c3 c4 c5 c11 c12 (goOn sFile m q b) w') := by
    intro w1 h1
    refine (Tryz.goOn_any k sFile m q b bv c1 c2 c3 c4 c5 c6 c7 c8 c11 c12 w1 hm ((h1.block k hkz).trans hk) (segRow_below hb h1) hoff hbl hbx (henv.below h1)).mono ?_
    rintro e w' ⟨rfl, hb', hv⟩
    exact ⟨rfl, (But.of_below h1).trans hb', hv⟩
  have HNIL : Hid (∀ w1 : World, SegRow w1 (.slice none 0 0) []) := fun w1 => ⟨⟨none, 0, rfl, Nat.le_refl _, Nat.zero_le _, fun h => absurd rfl h⟩, fun g n c h => by cases h⟩
  have HDL : Hid ((driveOf b.way.segs).length ≤ 1000000 ∧ ∀ x ∈ driveOf b.way.segs, x.length ≤ 1000000) := by
    unfold driveOf
    split
    · exact ⟨by simp; omega, fun x hx => hbx x (List.mem_of_mem_take hx)⟩
    · exact ⟨by simp, fun x hx => by cases hx⟩
  have HE : Hid (fileBeside m q b = if isDrive (cutSlash (trimSlash m)).1 then (readWay sFile [] m, q) else if m.head? = some 47 then (readWay sFile (driveOf b.way.segs) m, q) else goOn sFile m q b) := rfl
  have HAL : Hid (∀ o : Obj, Below w.heap.size w (w.alloc o)) := fun o => (Below.refl _ _).alloc (Nat.le_refl _) o
  generalize hcell : adrCells b bv = AC at *
  have hAC : ∃ x0 x1 x2 x3 x4 x5 x6 x7 x8 x9 x10 x11 x12, AC = #[x0, x1, x2, x3, x4, x5, x6, x7, x8, x9, x10, x11, x12] := ⟨_, _, _, _, _, _, _, _, _, _, _, _, _, hcell.symm⟩
  obtain ⟨x0, x1, x2, x3, x4, x5, x6, x7, x8, x9, x10, x11, x12, rfl⟩ := hAC
  clear hk henv hb hbl hbx hm hoff hcell
  cases hd : isDrive (cutSlash (trimSlash m)).1 with
  | true =>
    have HE2 : Hid (fileBeside m q b = (readWay sFile [] m, q)) := by show _ = _; rw [HE.out, if_pos hd]
    rw [hd] at HBD
    clear hd HE
    generalize trimSlash m = tm at *
    generalize decide (m.head? = some 47) = h47 at *
    go_enter Tryz.func189, Tryz.ntmps189
    go_wp2_with fail
    refine (HCP.out _).mono ?_
    rintro e w1 ⟨rfl, hw1⟩
    have hw1 := hw1.symm
    subst hw1
    go_wp2_with fail
    refine (HBD.out _).mono ?_
    rintro e w2 ⟨rfl, b2⟩
    have hb2 : Below w.heap.size w w2 := (HAL.out _).trans (b2.mono (by simp))
    have HRP2 := HRP.out [] none 0 w2 hb2 (HNIL.out w2) (by simp) (by simp)
    have HRP3 : Hid _ := HRP2
    clear HRP2 b2 hb2
    go_wp2_with fail
    refine Calls.mono HRP3.out ?_
    rintro e w3 ⟨rfl, hb3, hr3⟩
    have HF : Hid _ := And.intro hb3 hr3
    clear hb3 hr3
    go_wp2
    rw [HE2.out]
    exact bodyPost_end (v := .tuple #[]) (results_none rfl _ _ _) rfl ⟨rfl, HF.out.1, HF.out.2⟩
  | false =>
    rw [hd] at HBD
    by_cases h47 : m.head? = some 47
    · have HE2 : Hid (fileBeside m q b = (readWay sFile (driveOf b.way.segs) m, q)) := by show _ = _; rw [HE.out, if_neg (by simp [hd]), if_pos h47]
      rw [decide_eq_true h47] at HCP
      clear hd HE h47
      generalize trimSlash m = tm at *
      go_enter Tryz.func189, Tryz.ntmps189
      go_wp2_with fail
      refine (HCP.out _).mono ?_
      rintro e w1 ⟨rfl, hw1⟩
      have hw1 := hw1.symm
      subst hw1
      go_wp2_with fail
      refine (HBD.out _).mono ?_
      rintro e w2 ⟨rfl, b2⟩
      have hb2 : Below w.heap.size w w2 := (HAL.out _).trans (b2.mono (by simp))
      have hcl : w2.heap[w.heap.size]? = some (.cells #[x0, x1, x2, x3, x4, x5, x6, x7, x8, x9, x10, x11, x12] 52 (0, 0)) := (b2.block w.heap.size (by simp)).trans (alloc_here w _ _)
      have y0 : w2.cell? ⟨w.heap.size, 0, none⟩ = some x0 := cell_heap hcl 0
      have y1 : w2.cell? ⟨w.heap.size, 1, none⟩ = some x1 := cell_heap hcl 1
      have y2 : w2.cell? ⟨w.heap.size, 2, none⟩ = some x2 := cell_heap hcl 2
      have y3 : w2.cell? ⟨w.heap.size, 3, none⟩ = some x3 := cell_heap hcl 3
      have y4 : w2.cell? ⟨w.heap.size, 4, none⟩ = some x4 := cell_heap hcl 4
      have y5 : w2.cell? ⟨w.heap.size, 5, none⟩ = some x5 := cell_heap hcl 5
      have y6 : w2.cell? ⟨w.heap.size, 6, none⟩ = some x6 := cell_heap hcl 6
      have y7 : w2.cell? ⟨w.heap.size, 7, none⟩ = some x7 := cell_heap hcl 7
      have y8 : w2.cell? ⟨w.heap.size, 8, none⟩ = some x8 := cell_heap hcl 8
      have y9 : w2.cell? ⟨w.heap.size, 9, none⟩ = some x9 := cell_heap hcl 9
      have y10 : w2.cell? ⟨w.heap.size, 10, none⟩ = some x10 := cell_heap hcl 10
      have y11 : w2.cell? ⟨w.heap.size, 11, none⟩ = some x11 := cell_heap hcl 11
      have y12 : w2.cell? ⟨w.heap.size, 12, none⟩ = some x12 := cell_heap hcl 12
      have HB2 : Hid (Below w.heap.size w w2) := hb2
      clear b2 hb2 hcl
      go_wp2_with fail
      refine (HDR.out w2 HB2.out).mono ?_
      rintro e w3 ⟨⟨sp, cap, rfl, hs3⟩, b3⟩
      have HRP3 : Hid _ := HRP.out (driveOf b.way.segs) sp cap w3 b3 hs3 HDL.out.1 HDL.out.2
      clear hs3 b3 y0 y1 y2 y3 y4 y5 y6 y7 y8 y9 y10 y11 y12
      go_wp2_with fail
      refine Calls.mono HRP3.out ?_
      rintro e w4 ⟨rfl, hb4, hr4⟩
      have HF : Hid _ := And.intro hb4 hr4
      clear hb4 hr4
      go_wp2
      rw [HE2.out]
      exact bodyPost_end (v := .tuple #[]) (results_none rfl _ _ _) rfl ⟨rfl, HF.out.1, HF.out.2⟩
    · have HE2 : Hid (fileBeside m q b = goOn sFile m q b) := by show _ = _; rw [HE.out, if_neg (by simp [hd]), if_neg h47]
      rw [decide_eq_false h47] at HCP
      clear hd HE h47
      generalize trimSlash m = tm at *
      go_enter Tryz.func189, Tryz.ntmps189
      go_wp2_with fail
      refine (HCP.out _).mono ?_
      rintro e w1 ⟨rfl, hw1⟩
      have hw1 := hw1.symm
      subst hw1
      go_wp2_with fail
      refine (HBD.out _).mono ?_
      rintro e w2 ⟨rfl, b2⟩
      have hb2 : Below w.heap.size w w2 := (HAL.out _).trans (b2.mono (by simp))
      have hcl : w2.heap[w.heap.size]? = some (.cells #[x0, x1, x2, x3, x4, x5, x6, x7, x8, x9, x10, x11, x12] 52 (0, 0)) := (b2.block w.heap.size (by simp)).trans (alloc_here w _ _)
      have y0 : w2.cell? ⟨w.heap.size, 0, none⟩ = some x0 := cell_heap hcl 0
      have y1 : w2.cell? ⟨w.heap.size, 1, none⟩ = some x1 := cell_heap hcl 1
      have y2 : w2.cell? ⟨w.heap.size, 2, none⟩ = some x2 := cell_heap hcl 2
      have y3 : w2.cell? ⟨w.heap.size, 3, none⟩ = some x3 := cell_heap hcl 3
      have y4 : w2.cell? ⟨w.heap.size, 4, none⟩ = some x4 := cell_heap hcl 4
      have y5 : w2.cell? ⟨w.heap.size, 5, none⟩ = some x5 := cell_heap hcl 5
      have y6 : w2.cell? ⟨w.heap.size, 6, none⟩ = some x6 := cell_heap hcl 6
      have y7 : w2.cell? ⟨w.heap.size, 7, none⟩ = some x7 := cell_heap hcl 7
      have y8 : w2.cell? ⟨w.heap.size, 8, none⟩ = some x8 := cell_heap hcl 8
      have y9 : w2.cell? ⟨w.heap.size, 9, none⟩ = some x9 := cell_heap hcl 9
      have y10 : w2.cell? ⟨w.heap.size, 10, none⟩ = some x10 := cell_heap hcl 10
      have y11 : w2.cell? ⟨w.heap.size, 11, none⟩ = some x11 := cell_heap hcl 11
      have y12 : w2.cell? ⟨w.heap.size, 12, none⟩ = some x12 := cell_heap hcl 12
      have HGO2 : Hid _ := HGO.out w2 hb2
      clear b2 hb2 hcl
      go_wp2_with fail
      refine Calls.mono HGO2.out ?_
      rintro e w3 ⟨rfl, hb3, hr3⟩
      have HF : Hid _ := And.intro hb3 hr3
      clear hb3 hr3
      go_wp2
      rw [HE2.out]
      exact bodyPost_end (v := .tuple #[]) (results_none rfl _ _ _) rfl ⟨rfl, HF.out.1, HF.out.2⟩
end Go.Proofs
