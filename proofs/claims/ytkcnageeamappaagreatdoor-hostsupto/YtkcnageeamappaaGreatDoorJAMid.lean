/-
  What readRelative of package address does to the address that it is handed.
-/
import Derived.Test.YtkcnageeamappaaGreatDoorJAFile3
import Derived.Test.YtkcnageeamappaaGreatDoorJShelfC
namespace Go.Moor
open Go
def withQ (q : Option Bs) : Except Int (Auth × Way) → Except Int (Auth × Way × Option Bs)
  | .error n => .error n
  | .ok p => .ok (p.1, p.2, q)
end Go.Moor
namespace Go.Proofs
open Go.RowKit Go.Moor

theorem trimLeft_slash (m : Bs) : Lib.trimLeftB m 47 = trimSlashes m := by
  unfold Lib.trimLeftB trimSlashes
  congr 1
theorem trimSlashes_len (m : Bs) : (trimSlashes m).length ≤ m.length := (List.dropWhile_sublist _).length_le
theorem Tryz.trimLeft_any (m : Bs) (w : World) : Calls Tryz.prog 247 #[.string ⟨m.toArray⟩, .string ⟨#[47]⟩] w fun e w' => e = .returned (.string ⟨(trimSlashes m).toArray⟩) ∧ w' = w := by
  have := Tryz.strings_TrimLeft_one ⟨m.toArray⟩ 47 (by decide) w
  rw [show (⟨m.toArray⟩ : ByteArray).data.toList = m from rfl, trimLeft_slash] at this
  exact this

/-- What reading an authority leaves, with the query as it was. -/
theorem Tryz.mid_of_from {k : Nat} {sc : Bs} {c11 c12 : Value} {B : Nat} {q : Option Bs} {o : Except Int (Auth × Moor.Way)} {e : Ending} {w' : World} (h : Tryz.FromRes k sc (.bool q.isSome) (.string ⟨(q.getD []).toArray⟩) c11 c12 B o e w') :
    Tryz.MidRes k sc c11 c12 (withQ q o) e w' := by
  have h2 := Tryz.way_of_from h
  cases o with
  | error n => exact h2
  | ok p => obtain ⟨a, y⟩ := p; exact h2

set_option maxHeartbeats 4000000 in
theorem Tryz.readRelative_any (k : Nat) (sc m : Bs) (q : Option Bs) (b : Adr) (bv : Value) (c6 c7 c8 c11 c12 : Value) (w : World) (hm : m.length ≤ 100000)
    (hk : w.heap[k]? = some (.cells #[.string ⟨sc.toArray⟩, .string ⟨#[]⟩, .string ⟨#[]⟩, .bool false, .string ⟨#[]⟩, .int .i64 (-1), c6, c7, c8, .bool q.isSome, .string ⟨(q.getD []).toArray⟩, c11, c12] 77 (0, 0)))
    (h1c : (c6.oneCell' && c7.oneCell' && c8.oneCell' && c11.oneCell' && c12.oneCell') = true) (hkg : 29 ≤ k) (hb : SegRow w bv b.way.segs) (hoff : RowOff k bv) (hbl : b.way.segs.length ≤ 1000000) (hbx : ∀ x ∈ b.way.segs, x.length ≤ 1000000) (henv : Tryz.Env2 w) :
    Calls Tryz.prog 245 #[.pointer (some ⟨k, 0, none⟩), .string ⟨m.toArray⟩, .agg (adrCells b bv)] w fun e w' => But k w w' ∧ Tryz.MidRes k sc c11 c12 (readRelative hostTell sc m q b) e w' ∧ (∀ n, readRelative hostTell sc m q b = .error n → Tryz.Thirteen k w') := by
  have hkz : k < w.heap.size := (Array.getElem?_eq_some_iff.1 hk).1
  have H13 : Hid (Tryz.Thirteen k w) := ⟨_, hk, rfl, thirteen_one _ _ _ _ _ _ _ _ _ _ _ _ _ (by simp only [Bool.and_eq_true] at h1c; obtain ⟨⟨⟨⟨a6, a7⟩, a8⟩, a11⟩, a12⟩ := h1c; rw [a6, a7, a8, a11, a12]; rfl)⟩
  clear h1c
  have hne : w.heap.size ≠ k := by omega
  have hne2 : k ≠ w.heap.size := by omega
  have HAL : Hid (∀ o : Obj, Below w.heap.size w (w.alloc o)) := fun o => (Below.refl _ _).alloc (Nat.le_refl _) o
  have HCP : Hid (∀ w1, Calls Tryz.prog 277 #[.string ⟨m.toArray⟩, .string ⟨#[47, 47]⟩] w1 fun e w' => e = .returned (.tuple #[.string ⟨(Lib.trimPrefix m [47, 47]).toArray⟩, .bool (Lib.hasPrefix m [47, 47])]) ∧ w' = w1) := fun w1 => Tryz.strings_CutPrefix ⟨m.toArray⟩ ⟨#[47, 47]⟩ w1
  have HSP : Hid (∀ w1, Calls Tryz.prog 126 #[.string ⟨sc.toArray⟩] w1 fun e w' => e = .returned (.bool (special sc)) ∧ w' = w1) := fun w1 => Tryz.isSpecial_any ⟨sc.toArray⟩ w1
  have HRF : Hid (∀ (t : Bs) w1, t.length ≤ 100000 → Below w.heap.size w w1 → Calls Tryz.prog 246 #[.pointer (some ⟨k, 0, none⟩), .string ⟨t.toArray⟩] w1 fun e w' => But k w w' ∧ Tryz.MidRes k sc c11 c12 (withQ q (fromAuth hostTell sc t)) e w' ∧ (∀ n, withQ q (fromAuth hostTell sc t) = .error n → Tryz.Thirteen k w')) := by
    intro t w1 ht h1
    refine (Tryz.readFromAuthority_any k sc t _ _ _ _ _ c6 c7 c8 _ _ c11 c12 w1 ht ((h1.block k hkz).trans hk) hkg (henv.below h1)).mono ?_
    rintro e w' ⟨hb', hr, hx⟩
    refine ⟨(But.of_below h1).trans hb', Tryz.mid_of_from hr, fun n hn => ?_⟩
    cases hfa : fromAuth hostTell sc t with
    | error n2 =>
      obtain ⟨cs, h3, h4⟩ := H13.out
      exact ⟨cs, (hx n2 hfa).trans ((h1.block k hkz).trans h3), h4⟩
    | ok p => rw [hfa] at hn; cases hn
  have j0 : w.cell? ⟨k, 0, none⟩ = some (.string ⟨sc.toArray⟩) := cell_heap hk 0
  cases h2 : List.isPrefixOf [47, 47] m with
  | true =>
    have ht : Lib.trimPrefix m [47, 47] = m.drop 2 := by unfold Lib.trimPrefix; rw [two_pre, h2]; rfl
    rw [ht, two_pre, h2] at HCP
    have hl2 : (m.drop 2).length ≤ 100000 := by rw [List.length_drop]; omega
    generalize hcell : adrCells b bv = AC at *
    have hAC : ∃ x0 x1 x2 x3 x4 x5 x6 x7 x8 x9 x10 x11 x12, AC = #[x0, x1, x2, x3, x4, x5, x6, x7, x8, x9, x10, x11, x12] := ⟨_, _, _, _, _, _, _, _, _, _, _, _, _, hcell.symm⟩
    obtain ⟨x0, x1, x2, x3, x4, x5, x6, x7, x8, x9, x10, x11, x12, rfl⟩ := hAC
    cases hs : special sc with
    | true =>
      rw [hs] at HSP
      have HE : Hid (readRelative hostTell sc m q b = withQ q (fromAuth hostTell sc (trimSlashes (m.drop 2)))) := by show _ = _; unfold readRelative; rw [if_pos h2, if_pos hs]; cases fromAuth hostTell sc (trimSlashes (m.drop 2)) <;> rfl
      have HTL : Hid (∀ w1, Calls Tryz.prog 247 #[.string ⟨(m.drop 2).toArray⟩, .string ⟨#[47]⟩] w1 fun e w' => e = .returned (.string ⟨(trimSlashes (m.drop 2)).toArray⟩) ∧ w' = w1) := fun w1 => Tryz.trimLeft_any (m.drop 2) w1
      have hl3 : (trimSlashes (m.drop 2)).length ≤ 100000 := Nat.le_trans (trimSlashes_len _) hl2
      clear h2 ht hk henv hb hoff hbl hbx hm hcell hl2 hs
      generalize trimSlashes (m.drop 2) = tm at *
      generalize m.drop 2 = m2 at *
      go_enter Tryz.func245, Tryz.ntmps245
      go_wp2_with fail
      refine (HCP.out _).mono ?_
      rintro e w1 ⟨rfl, hw0⟩
      have hw0 := hw0.symm
      subst hw0
      go_wp2_with fail
      refine (HSP.out _).mono ?_
      rintro e w1 ⟨rfl, hw0⟩
      have hw0 := hw0.symm
      subst hw0
      go_wp2_with fail
      refine (HTL.out _).mono ?_
      rintro e w1 ⟨rfl, hw0⟩
      have hw0 := hw0.symm
      subst hw0
      have HRF2 : Hid _ := HRF.out tm _ hl3 (HAL.out (.cells #[x0, x1, x2, x3, x4, x5, x6, x7, x8, x9, x10, x11, x12] 77))
      go_wp2_with fail
      refine Calls.mono HRF2.out ?_
      rintro e w2 ⟨hb, hr, hx⟩
      obtain ⟨ev, rfl⟩ := Tryz.midRes_ret hr
      have HF : Hid _ := And.intro hb (And.intro hr hx)
      clear hb hr hx
      go_wp2
      go_ret
      rw [HE.out]
      exact HF.out
    | false =>
      rw [hs] at HSP
      have HE : Hid (readRelative hostTell sc m q b = withQ q (fromAuth hostTell sc (m.drop 2))) := by show _ = _; unfold readRelative; rw [if_pos h2, if_neg (by simp [hs])]; cases fromAuth hostTell sc (m.drop 2) <;> rfl
      clear h2 ht hk henv hb hoff hbl hbx hm hcell hs
      generalize m.drop 2 = m2 at *
      go_enter Tryz.func245, Tryz.ntmps245
      go_wp2_with fail
      refine (HCP.out _).mono ?_
      rintro e w1 ⟨rfl, hw0⟩
      have hw0 := hw0.symm
      subst hw0
      go_wp2_with fail
      refine (HSP.out _).mono ?_
      rintro e w1 ⟨rfl, hw0⟩
      have hw0 := hw0.symm
      subst hw0
      have HRF2 : Hid _ := HRF.out m2 _ hl2 (HAL.out (.cells #[x0, x1, x2, x3, x4, x5, x6, x7, x8, x9, x10, x11, x12] 77))
      go_wp2_with fail
      refine Calls.mono HRF2.out ?_
      rintro e w2 ⟨hb, hr, hx⟩
      obtain ⟨ev, rfl⟩ := Tryz.midRes_ret hr
      have HF : Hid _ := And.intro hb (And.intro hr hx)
      clear hb hr hx
      go_wp2
      go_ret
      rw [HE.out]
      exact HF.out
  | false =>
    rw [two_pre, h2] at HCP
    have HHP : Hid (∀ w1, Calls Tryz.prog 82 #[.string ⟨m.toArray⟩, .string ⟨#[47]⟩] w1 fun e w' => e = .returned (.bool (decide (m.head? = some 47))) ∧ w' = w1) := fun w1 => by
      have := Tryz.strings_HasPrefix ⟨m.toArray⟩ ⟨#[47]⟩ w1
      rw [show (⟨#[47]⟩ : ByteArray).data.toList = [47] from rfl, show (⟨m.toArray⟩ : ByteArray).data.toList = m from rfl, pre_slash] at this
      exact this
    have j1 : w.cell? ⟨k, 1, none⟩ = some (.string ⟨#[]⟩) := cell_heap hk 1
    have j2 : w.cell? ⟨k, 2, none⟩ = some (.string ⟨#[]⟩) := cell_heap hk 2
    have j3 : w.cell? ⟨k, 3, none⟩ = some (.bool false) := cell_heap hk 3
    have j4 : w.cell? ⟨k, 4, none⟩ = some (.string ⟨#[]⟩) := cell_heap hk 4
    have j5 : w.cell? ⟨k, 5, none⟩ = some (.int .i64 (-1)) := cell_heap hk 5
    have i1 := frozen_heap hk 1
    have i2 := frozen_heap hk 2
    have i3 := frozen_heap hk 3
    have i4 := frozen_heap hk 4
    have i5 := frozen_heap hk 5
    obtain ⟨o, ho⟩ : ∃ o : Obj, o = .cells (adrCells b bv) 77 := ⟨_, rfl⟩
    have hWk := hk
    have g1 := heap_setCell_same _ k 1 _ 77 (.string ⟨b.auth.user.toArray⟩) hWk
    have g2 := heap_setCell_same _ k 2 _ 77 (.string ⟨b.auth.pass.toArray⟩) g1
    have g3 := heap_setCell_same _ k 3 _ 77 (.bool b.auth.has) g2
    have g4 := heap_setCell_same _ k 4 _ 77 (.string ⟨b.auth.host.toArray⟩) g3
    have g5 := heap_setCell_same _ k 5 _ 77 (.int .i64 b.auth.port) g4
    have hbu := (((((But.of_below (k := k) (Below.refl w.heap.size w)).setCell 1 (.string ⟨b.auth.user.toArray⟩)).setCell 2 (.string ⟨b.auth.pass.toArray⟩)).setCell 3 (.bool b.auth.has)).setCell 4 (.string ⟨b.auth.host.toArray⟩)).setCell 5 (.int .i64 b.auth.port)
    obtain ⟨V, hV⟩ : ∃ V, V = (((((w.setCell ⟨k, 1, none⟩ (.string ⟨b.auth.user.toArray⟩)).setCell ⟨k, 2, none⟩ (.string ⟨b.auth.pass.toArray⟩)).setCell ⟨k, 3, none⟩ (.bool b.auth.has)).setCell ⟨k, 4, none⟩ (.string ⟨b.auth.host.toArray⟩)).setCell ⟨k, 5, none⟩ (.int .i64 b.auth.port)).alloc o := ⟨_, rfl⟩
    have hVB : But k w V := by rw [hV]; exact hbu.alloc o
    have hVk : V.heap[k]? = some (.cells #[.string ⟨sc.toArray⟩, .string ⟨b.auth.user.toArray⟩, .string ⟨b.auth.pass.toArray⟩, .bool b.auth.has, .string ⟨b.auth.host.toArray⟩, .int .i64 b.auth.port, c6, c7, c8, .bool q.isSome, .string ⟨(q.getD []).toArray⟩, c11, c12] 77 (0, 0)) := by
      rw [hV, heap_alloc_lt _ _ k (by simpa using hkz)]
      exact g5
    have hVe := henv.but hVB hkg
    have HVB : Hid (But k w V) := hVB
    have HRP : Hid (Calls Tryz.prog 163 #[.pointer (some ⟨k, 0, none⟩), .slice none 0 0, .string ⟨m.toArray⟩] V fun e w' => e = .returned (.tuple #[]) ∧ But k w w' ∧ Tryz.PathRes k sc (.string ⟨b.auth.user.toArray⟩) (.string ⟨b.auth.pass.toArray⟩) (.bool b.auth.has) (.string ⟨b.auth.host.toArray⟩) (.int .i64 b.auth.port) c11 c12 (readWay sc [] m, q) w') := by
      refine (Tryz.readPath_any k sc m _ _ _ _ _ c6 c7 c8 _ _ c11 c12 none 0 [] V hm (by simp) (by simp) hVk (by simp) hVe).mono ?_
      rintro e w' ⟨rfl, hb', v, h2, h3⟩
      exact ⟨rfl, HVB.out.trans hb', v, h2, own_seg h3⟩
    have HGO : Hid (Calls Tryz.prog 280 #[.pointer (some ⟨k, 0, none⟩), .string ⟨m.toArray⟩, .agg (adrCells b bv)] V fun e w' => e = .returned (.tuple #[]) ∧ But k w w' ∧ Tryz.PathRes k sc (.string ⟨b.auth.user.toArray⟩) (.string ⟨b.auth.pass.toArray⟩) (.bool b.auth.has) (.string ⟨b.auth.host.toArray⟩) (.int .i64 b.auth.port) c11 c12 (goOn sc m q b) w') := by
      refine (Tryz.goOn_any k sc m q b bv _ _ _ _ _ c6 c7 c8 c11 c12 V hm hVk (segRow_but hb hVB hoff) hoff hbl hbx hVe).mono ?_
      rintro e w' ⟨rfl, hb', hv⟩
      exact ⟨rfl, HVB.out.trans hb', hv⟩
    have HE : Hid (readRelative hostTell sc m q b = if m.head? = some 47 then .ok (b.auth, readWay sc [] m, q) else .ok (b.auth, (goOn sc m q b).1, (goOn sc m q b).2)) := by
      show _ = _
      unfold readRelative
      rw [if_neg (by simp [h2])]
    have HY : Hid (∀ p w2, But k w w2 ∧ Tryz.PathRes k sc (.string ⟨b.auth.user.toArray⟩) (.string ⟨b.auth.pass.toArray⟩) (.bool b.auth.has) (.string ⟨b.auth.host.toArray⟩) (.int .i64 b.auth.port) c11 c12 p w2 → But k w w2 ∧ Tryz.MidRes k sc c11 c12 (.ok (b.auth, p.1, p.2)) (.returned .nilIface) w2) := fun p w2 h => ⟨h.1, rfl, h.2⟩
    have hbs : ∃ x0 x6 x7 x8 x9 x10 x11 x12, adrCells b bv = #[x0, .string ⟨b.auth.user.toArray⟩, .string ⟨b.auth.pass.toArray⟩, .bool b.auth.has, .string ⟨b.auth.host.toArray⟩, .int .i64 b.auth.port, x6, x7, x8, x9, x10, x11, x12] := ⟨_, _, _, _, _, _, _, _, rfl⟩
    obtain ⟨x0, x6, x7, x8, x9, x10, x11, x12, hbs⟩ := hbs
    rw [hbs] at ho HGO ⊢
    subst ho
    clear g1 g2 g3 g4 g5 hbu hk hWk hVk hVe hVB henv hb hoff hbl hbx hm hbs h2
    have HW : Hid (V = _) := hV
    clear hV
    generalize Lib.trimPrefix m [47, 47] = tp at *
    by_cases h47 : m.head? = some 47
    · have HE2 : Hid (readRelative hostTell sc m q b = .ok (b.auth, readWay sc [] m, q)) := by show _ = _; rw [HE.out, if_pos h47]
      rw [decide_eq_true h47] at HHP
      clear HE h47
      go_enter Tryz.func245, Tryz.ntmps245
      go_wp2_with fail
      refine (HCP.out _).mono ?_
      rintro e w1 ⟨rfl, hw0⟩
      have hw0 := hw0.symm
      subst hw0
      go_wp2_with fail
      rw [← HW.out]
      refine (HHP.out _).mono ?_
      rintro e w1 ⟨rfl, hw0⟩
      have hw0 := hw0.symm
      subst hw0
      clear HW
      go_wp2_with fail
      refine Calls.mono HRP.out ?_
      rintro e w2 ⟨rfl, hb, hr⟩
      have HF : Hid _ := HY.out _ _ (And.intro hb hr)
      clear hb hr
      go_wp2
      go_ret
      rw [HE2.out]
      exact ⟨HF.out.1, HF.out.2, fun n h => by cases h⟩
    · have HE2 : Hid (readRelative hostTell sc m q b = .ok (b.auth, (goOn sc m q b).1, (goOn sc m q b).2)) := by show _ = _; rw [HE.out, if_neg h47]
      rw [decide_eq_false h47] at HHP
      clear HE h47
      have hcl : V.heap[w.heap.size]? = some (.cells #[x0, .string ⟨b.auth.user.toArray⟩, .string ⟨b.auth.pass.toArray⟩, .bool b.auth.has, .string ⟨b.auth.host.toArray⟩, .int .i64 b.auth.port, x6, x7, x8, x9, x10, x11, x12] 77 (0, 0)) := by
        have := alloc_here (((((w.setCell ⟨k, 1, none⟩ (.string ⟨b.auth.user.toArray⟩)).setCell ⟨k, 2, none⟩ (.string ⟨b.auth.pass.toArray⟩)).setCell ⟨k, 3, none⟩ (.bool b.auth.has)).setCell ⟨k, 4, none⟩ (.string ⟨b.auth.host.toArray⟩)).setCell ⟨k, 5, none⟩ (.int .i64 b.auth.port)) #[x0, .string ⟨b.auth.user.toArray⟩, .string ⟨b.auth.pass.toArray⟩, .bool b.auth.has, .string ⟨b.auth.host.toArray⟩, .int .i64 b.auth.port, x6, x7, x8, x9, x10, x11, x12] 77
        rw [← HW.out] at this
        simpa using this
      have y0 : V.cell? ⟨w.heap.size, 0, none⟩ = some x0 := cell_heap hcl 0
      have y1 : V.cell? ⟨w.heap.size, 1, none⟩ = some (.string ⟨b.auth.user.toArray⟩) := cell_heap hcl 1
      have y2 : V.cell? ⟨w.heap.size, 2, none⟩ = some (.string ⟨b.auth.pass.toArray⟩) := cell_heap hcl 2
      have y3 : V.cell? ⟨w.heap.size, 3, none⟩ = some (.bool b.auth.has) := cell_heap hcl 3
      have y4 : V.cell? ⟨w.heap.size, 4, none⟩ = some (.string ⟨b.auth.host.toArray⟩) := cell_heap hcl 4
      have y5 : V.cell? ⟨w.heap.size, 5, none⟩ = some (.int .i64 b.auth.port) := cell_heap hcl 5
      have y6 : V.cell? ⟨w.heap.size, 6, none⟩ = some x6 := cell_heap hcl 6
      have y7 : V.cell? ⟨w.heap.size, 7, none⟩ = some x7 := cell_heap hcl 7
      have y8 : V.cell? ⟨w.heap.size, 8, none⟩ = some x8 := cell_heap hcl 8
      have y9 : V.cell? ⟨w.heap.size, 9, none⟩ = some x9 := cell_heap hcl 9
      have y10 : V.cell? ⟨w.heap.size, 10, none⟩ = some x10 := cell_heap hcl 10
      have y11 : V.cell? ⟨w.heap.size, 11, none⟩ = some x11 := cell_heap hcl 11
      have y12 : V.cell? ⟨w.heap.size, 12, none⟩ = some x12 := cell_heap hcl 12
      clear hcl
      go_enter Tryz.func245, Tryz.ntmps245
      go_wp2_with fail
      refine (HCP.out _).mono ?_
      rintro e w1 ⟨rfl, hw0⟩
      have hw0 := hw0.symm
      subst hw0
      go_wp2_with fail
      rw [← HW.out]
      refine (HHP.out _).mono ?_
      rintro e w1 ⟨rfl, hw0⟩
      have hw0 := hw0.symm
      subst hw0
      clear HW
      go_wp2_with fail
      refine Calls.mono HGO.out ?_
      rintro e w2 ⟨rfl, hb, hr⟩
      have HF : Hid _ := HY.out _ _ (And.intro hb hr)
      clear hb hr
      go_wp2
      go_ret
      rw [HE2.out]
      exact ⟨HF.out.1, HF.out.2, fun n h => by cases h⟩
end Go.Proofs
/-
  What readMiddle of package address does to the address that it is handed.
-/
namespace Go.Proofs
open Go.RowKit Go.Moor

theorem Tryz.sizeAdr : (Tryz.prog.info? 77).map (·.size) = some 13 := by kernel_rfl
theorem adrCells_one (b : Adr) (v : Value) (h : v.oneCell' = true) : (adrCells b v).all (·.oneCell') = true := by
  unfold adrCells
  exact thirteen_one _ _ _ _ _ _ _ _ _ _ _ _ _ (by rw [h]; rfl)

set_option maxHeartbeats 4000000 in
theorem Tryz.readMiddle_any (k : Nat) (sc m : Bs) (q : Option Bs) (ob : Option Adr) (bp : Option Go.Addr) (c6 c7 c8 c11 c12 : Value) (w : World) (hm : m.length ≤ 100000)
    (hk : w.heap[k]? = some (.cells #[.string ⟨sc.toArray⟩, .string ⟨#[]⟩, .string ⟨#[]⟩, .bool false, .string ⟨#[]⟩, .int .i64 (-1), c6, c7, c8, .bool q.isSome, .string ⟨(q.getD []).toArray⟩, c11, c12] 77 (0, 0)))
    (h1c : (c6.oneCell' && c7.oneCell' && c8.oneCell' && c11.oneCell' && c12.oneCell') = true) (hkg : 29 ≤ k) (hbase : Tryz.BaseOk w k bp ob) (henv : Tryz.Env2 w) :
    Calls Tryz.prog 208 #[.pointer (some ⟨k, 0, none⟩), .string ⟨m.toArray⟩, .pointer bp] w fun e w' => But k w w' ∧ Tryz.MidRes k sc c11 c12 (readMiddle hostTell sc m q ob) e w' ∧ (∀ n, readMiddle hostTell sc m q ob = .error n → Tryz.Thirteen k w') := by
  have hkz : k < w.heap.size := (Array.getElem?_eq_some_iff.1 hk).1
  have j0 : w.cell? ⟨k, 0, none⟩ = some (.string ⟨sc.toArray⟩) := cell_heap hk 0
  by_cases hf : sc = sFile
  · subst hf
    have HE : Hid (readMiddle hostTell sFile m q ob = readFile hostTell m q ob) := by show _ = _; unfold readMiddle; rw [if_pos rfl]
    have HRF : Hid (Calls Tryz.prog 244 #[.pointer (some ⟨k, 0, none⟩), .string ⟨m.toArray⟩, .pointer bp] w fun e w' => But k w w' ∧ Tryz.MidRes k sFile c11 c12 (readFile hostTell m q ob) e w' ∧ (∀ n, readFile hostTell m q ob = .error n → Tryz.Thirteen k w')) := Tryz.readFile_any k m q ob bp c6 c7 c8 c11 c12 w hm hk h1c hkg hbase henv
    clear hk h1c hbase henv hm
    go_enter Tryz.func208, Tryz.ntmps208
    go_wp2_with fail
    refine HRF.out.mono ?_
    rintro e w2 ⟨hb, hr, hx⟩
    obtain ⟨ev, rfl⟩ := Tryz.midRes_ret hr
    have HF : Hid _ := And.intro hb (And.intro hr hx)
    clear hb hr hx
    go_wp2
    go_ret
    rw [HE.out]
    exact HF.out
  · have e1 := mk_ne sc _ hf
    have HS : Hid (∀ w1, Calls Tryz.prog 126 #[.string ⟨sc.toArray⟩] w1 fun e w' => e = .returned (.bool (special sc)) ∧ w' = w1) := fun w1 => Tryz.isSpecial_any ⟨sc.toArray⟩ w1
    unfold sFile at e1
    cases ob with
    | some b =>
      have HE : Hid (readMiddle hostTell sc m q (some b) = readRelative hostTell sc m q b) := by show _ = _; unfold readMiddle; rw [if_neg hf]
      obtain ⟨kb, bv, rfl, hkb, hcl, hsr, hoff, hbl, hbx⟩ := hbase
      have HRR : Hid (Calls Tryz.prog 245 #[.pointer (some ⟨k, 0, none⟩), .string ⟨m.toArray⟩, .agg (adrCells b bv)] w fun e w' => But k w w' ∧ Tryz.MidRes k sc c11 c12 (readRelative hostTell sc m q b) e w' ∧ (∀ n, readRelative hostTell sc m q b = .error n → Tryz.Thirteen k w')) := Tryz.readRelative_any k sc m q b bv c6 c7 c8 c11 c12 w hm hk h1c hkg hsr hoff hbl hbx henv
      have HCL : Hid (w.heap[kb]? = some (.cells (adrCells b bv) 77 (0, 0))) := hcl
      have HSZ : Hid ((Tryz.prog.info? 77).map (·.size) = some (adrCells b bv).size) := Tryz.sizeAdr
      generalize adrCells b bv = AC at *
      obtain ⟨s, hsd⟩ : ∃ s : ByteArray, s = ⟨sc.toArray⟩ := ⟨_, rfl⟩
      rw [← hsd] at e1 j0 HS
      clear hk h1c henv hm hcl hsr hoff hbl hbx hf hsd
      go_enter Tryz.func208, Tryz.ntmps208
      go_wp2_with (refine wpList_load_row rfl 77 _ rfl kb rfl 77 AC (0, 0) _ HCL.out Tryz.underlying77 rfl HSZ.out ?_)
      refine Calls.mono HRR.out ?_
      rintro e w2 ⟨hb, hr, hx⟩
      obtain ⟨ev, rfl⟩ := Tryz.midRes_ret hr
      have HF : Hid _ := And.intro hb (And.intro hr hx)
      clear hb hr hx
      go_wp2
      go_ret
      rw [HE.out]
      exact HF.out
    | none =>
      have hbp : bp = none := hbase
      subst hbp
      cases hs : special sc with
      | true =>
        rw [hs] at HS
        have HE : Hid (readMiddle hostTell sc m q none = withQ q (fromAuth hostTell sc (trimSlashes m))) := by
          show _ = _
          unfold readMiddle
          rw [if_neg hf]
          simp only [hs, if_true]
          cases fromAuth hostTell sc (trimSlashes m) <;> rfl
        have HTL : Hid (∀ w1, Calls Tryz.prog 247 #[.string ⟨m.toArray⟩, .string ⟨#[47]⟩] w1 fun e w' => e = .returned (.string ⟨(trimSlashes m).toArray⟩) ∧ w' = w1) := fun w1 => Tryz.trimLeft_any m w1
        have H13 : Hid (Tryz.Thirteen k w) := ⟨_, hk, rfl, thirteen_one _ _ _ _ _ _ _ _ _ _ _ _ _ (by simp only [Bool.and_eq_true] at h1c; obtain ⟨⟨⟨⟨a6, a7⟩, a8⟩, a11⟩, a12⟩ := h1c; rw [a6, a7, a8, a11, a12]; rfl)⟩
        have HRF : Hid (Calls Tryz.prog 246 #[.pointer (some ⟨k, 0, none⟩), .string ⟨(trimSlashes m).toArray⟩] w fun e w' => But k w w' ∧ Tryz.MidRes k sc c11 c12 (withQ q (fromAuth hostTell sc (trimSlashes m))) e w' ∧ (∀ n, withQ q (fromAuth hostTell sc (trimSlashes m)) = .error n → Tryz.Thirteen k w')) := by
          refine (Tryz.readFromAuthority_any k sc (trimSlashes m) _ _ _ _ _ c6 c7 c8 _ _ c11 c12 w (Nat.le_trans (trimSlashes_len m) hm) hk hkg henv).mono ?_
          rintro e w' ⟨hb', hr, hx⟩
          refine ⟨hb', Tryz.mid_of_from hr, fun n hn => ?_⟩
          cases hfa : fromAuth hostTell sc (trimSlashes m) with
          | error n2 =>
            obtain ⟨cs, h3, h4⟩ := H13.out
            exact ⟨cs, (hx n2 hfa).trans h3, h4⟩
          | ok p => rw [hfa] at hn; cases hn
        obtain ⟨s, hsd⟩ : ∃ s : ByteArray, s = ⟨sc.toArray⟩ := ⟨_, rfl⟩
        rw [← hsd] at e1 j0 HS
        generalize trimSlashes m = tm at *
        clear hk h1c henv hm hf hsd hs hbase
        go_enter Tryz.func208, Tryz.ntmps208
        go_wp2_with fail
        refine (HS.out _).mono ?_
        rintro e w1 ⟨rfl, hw0⟩
        have hw0 := hw0.symm
        subst hw0
        go_wp2_with fail
        refine (HTL.out _).mono ?_
        rintro e w1 ⟨rfl, hw0⟩
        have hw0 := hw0.symm
        subst hw0
        go_wp2_with fail
        refine Calls.mono HRF.out ?_
        rintro e w2 ⟨hb, hr, hx⟩
        obtain ⟨ev, rfl⟩ := Tryz.midRes_ret hr
        have HF : Hid _ := And.intro hb (And.intro hr hx)
        clear hb hr hx
        go_wp2
        go_ret
        rw [HE.out]
        exact HF.out
      | false =>
        rw [hs] at HS
        have HE : Hid (readMiddle hostTell sc m q none = withQ q (readOther hostTell sc m)) := by
          show _ = _
          unfold readMiddle
          rw [if_neg hf]
          simp only [hs, Bool.false_eq_true, if_false]
          cases readOther hostTell sc m <;> rfl
        have H13 : Hid (Tryz.Thirteen k w) := ⟨_, hk, rfl, thirteen_one _ _ _ _ _ _ _ _ _ _ _ _ _ (by simp only [Bool.and_eq_true] at h1c; obtain ⟨⟨⟨⟨a6, a7⟩, a8⟩, a11⟩, a12⟩ := h1c; rw [a6, a7, a8, a11, a12]; rfl)⟩
        have HRO : Hid (Calls Tryz.prog 248 #[.pointer (some ⟨k, 0, none⟩), .string ⟨m.toArray⟩] w fun e w' => But k w w' ∧ Tryz.MidRes k sc c11 c12 (withQ q (readOther hostTell sc m)) e w' ∧ (∀ n, withQ q (readOther hostTell sc m) = .error n → Tryz.Thirteen k w')) := by
          refine (Tryz.readOther_any k sc m c6 c7 c8 _ _ c11 c12 w hm hk hkg henv).mono ?_
          rintro e w' ⟨hb', hr, hx⟩
          refine ⟨hb', ?_, fun n hn => ?_⟩
          · cases hro : readOther hostTell sc m with
            | error n => rw [hro] at hr; exact hr
            | ok p => rw [hro] at hr; obtain ⟨a, y⟩ := p; exact hr
          · cases hfa : readOther hostTell sc m with
            | error n2 =>
              obtain ⟨cs, h3, h4⟩ := H13.out
              exact ⟨cs, (hx n2 hfa).trans h3, h4⟩
            | ok p => rw [hfa] at hn; cases hn
        obtain ⟨s, hsd⟩ : ∃ s : ByteArray, s = ⟨sc.toArray⟩ := ⟨_, rfl⟩
        rw [← hsd] at e1 j0 HS
        clear hk h1c henv hm hf hsd hs hbase
        go_enter Tryz.func208, Tryz.ntmps208
        go_wp2_with fail
        refine (HS.out _).mono ?_
        rintro e w1 ⟨rfl, hw0⟩
        have hw0 := hw0.symm
        subst hw0
        go_wp2_with fail
        refine Calls.mono HRO.out ?_
        rintro e w2 ⟨hb, hr, hx⟩
        obtain ⟨ev, rfl⟩ := Tryz.midRes_ret hr
        have HF : Hid _ := And.intro hb (And.intro hr hx)
        clear hb hr hx
        go_wp2
        go_ret
        rw [HE.out]
        exact HF.out
end Go.Proofs
