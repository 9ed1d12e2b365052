/-
  What readFile of package address does to the address that it is handed.
-/
import Derived.Test.YtkcnageeamappabGreatDoorJAFileB
namespace Go.Proofs
open Go.RowKit Go.Moor

/-- A base behind a pointer, in another block than k, or none. -/
def Tryz.BaseOk (w : World) (k : Nat) (p : Option Go.Addr) (ob : Option Adr) : Prop :=
  match ob with
  | none => p = none
  | some b => ∃ kb bv, p = some ⟨kb, 0, none⟩ ∧ kb ≠ k ∧ w.heap[kb]? = some (.cells (adrCells b bv) 52 (0, 0)) ∧ SegRow w bv b.way.segs ∧ RowOff k bv ∧ b.way.segs.length ≤ 1000000 ∧ ∀ x ∈ b.way.segs, x.length ≤ 1000000
theorem Tryz.BaseOk.but {w w' : World} {k : Nat} {p : Option Go.Addr} {ob : Option Adr} (h : Tryz.BaseOk w k p ob) (hb : But k w w') : Tryz.BaseOk w' k p ob := by
  cases ob with
  | none => exact h
  | some b =>
    obtain ⟨kb, bv, h1, h2, h3, h4, h5, h6, h7⟩ := h
    exact ⟨kb, bv, h1, h2, (hb.block kb (Array.getElem?_eq_some_iff.1 h3).1 h2).trans h3, segRow_but h4 hb h5, h5, h6, h7⟩
theorem Tryz.BaseOk.below {w w' : World} {k : Nat} {p : Option Go.Addr} {ob : Option Adr} (h : Tryz.BaseOk w k p ob) (hb : Below w.heap.size w w') : Tryz.BaseOk w' k p ob := h.but (But.of_below hb)
/-- The block is one of thirteen plain cells. -/
def Tryz.Thirteen (k : Nat) (w' : World) : Prop := ∃ cs : Array Value, w'.heap[k]? = some (.cells cs 52 (0, 0)) ∧ cs.size = 13 ∧ cs.all (·.oneCell') = true
theorem thirteen_one (c0 c1 c2 c3 c4 c5 c6 c7 c8 c9 c10 c11 c12 : Value) (h : (c0.oneCell' && c1.oneCell' && c2.oneCell' && c3.oneCell' && c4.oneCell' && c5.oneCell' && c6.oneCell' && c7.oneCell' && c8.oneCell' && c9.oneCell' && c10.oneCell' && c11.oneCell' && c12.oneCell') = true) : (#[c0, c1, c2, c3, c4, c5, c6, c7, c8, c9, c10, c11, c12] : Array Value).all (·.oneCell') = true := by
  simp only [Bool.and_eq_true] at h
  simp [h]
/-- Authority, path and query as they are left in the address's block, or the error. -/
def Tryz.MidRes (k : Nat) (sc : Bs) (c11 c12 : Value) (o : Except Int (Auth × Moor.Way × Option Bs)) (e : Ending) (w' : World) : Prop :=
  match o with
  | .error n => ∃ x y te ve, e = .returned (.iface 77 (.agg #[.int .i64 n, .string x, .string y, .iface te ve]))
  | .ok (a, y, q) => e = .returned .nilIface ∧ ∃ v, w'.heap[k]? = some (.cells #[.string ⟨sc.toArray⟩, .string ⟨a.user.toArray⟩, .string ⟨a.pass.toArray⟩, .bool a.has, .string ⟨a.host.toArray⟩, .int .i64 a.port, .bool y.opaq, .string ⟨y.text.toArray⟩, v, .bool q.isSome, .string ⟨(q.getD []).toArray⟩, c11, c12] 52 (0, 0)) ∧ SegRow w' v y.segs
theorem Tryz.midRes_ret {k : Nat} {sc : Bs} {c11 c12 : Value} {o : Except Int (Auth × Moor.Way × Option Bs)} {e : Ending} {w' : World} (h : Tryz.MidRes k sc c11 c12 o e w') : ∃ v, e = .returned v := by
  cases o with
  | error n => obtain ⟨x, y, te, ve, rfl⟩ := h; exact ⟨_, rfl⟩
  | ok p =>
    obtain ⟨a, y, q⟩ := p
    obtain ⟨rfl, _⟩ := h
    exact ⟨_, rfl⟩
theorem Tryz.fileRes_ret {k : Nat} {sc : Bs} {c1 c2 c3 c5 c9 c10 c11 c12 : Value} {B : Nat} {o : Except Int (Value × List Bs)} {e : Ending} {w' : World} (h : Tryz.FileRes k sc c1 c2 c3 c5 c9 c10 c11 c12 B o e w') : ∃ v, e = .returned v := by
  cases o with
  | error n => obtain ⟨x, y, te, ve, rfl⟩ := h; exact ⟨_, rfl⟩
  | ok p => obtain ⟨a, y⟩ := p; obtain ⟨rfl, _⟩ := h; exact ⟨_, rfl⟩

set_option maxHeartbeats 4000000 in
theorem Tryz.readFile_any (k : Nat) (m : Bs) (q : Option Bs) (ob : Option Adr) (bp : Option Go.Addr) (c6 c7 c8 c11 c12 : Value) (w : World) (hm : m.length ≤ 100000)
    (hk : w.heap[k]? = some (.cells #[.string ⟨sFile.toArray⟩, .string ⟨#[]⟩, .string ⟨#[]⟩, .bool false, .string ⟨#[]⟩, .int .i64 (-1), c6, c7, c8, .bool q.isSome, .string ⟨(q.getD []).toArray⟩, c11, c12] 52 (0, 0)))
    (h1c : (c6.oneCell' && c7.oneCell' && c8.oneCell' && c11.oneCell' && c12.oneCell') = true) (hkg : 27 ≤ k) (hbase : Tryz.BaseOk w k bp ob) (henv : Tryz.Env2 w) :
    Calls Tryz.prog 150 #[.pointer (some ⟨k, 0, none⟩), .string ⟨m.toArray⟩, .pointer bp] w fun e w' => But k w w' ∧ Tryz.MidRes k sFile c11 c12 (readFile hostTell m q ob) e w' ∧ (∀ n, readFile hostTell m q ob = .error n → Tryz.Thirteen k w') := by
  have hkz : k < w.heap.size := (Array.getElem?_eq_some_iff.1 hk).1
  have j3 : w.cell? ⟨k, 3, none⟩ = some (.bool false) := cell_heap hk 3
  have i3 := frozen_heap hk 3
  have g3 := heap_setCell_same w k 3 _ 52 (.bool true) hk
  obtain ⟨W, hW⟩ : ∃ W, W = w.setCell ⟨k, 3, none⟩ (.bool true) := ⟨_, rfl⟩
  rw [← hW] at g3
  have H13 : Hid (Tryz.Thirteen k W) := ⟨_, g3, rfl, thirteen_one _ _ _ _ _ _ _ _ _ _ _ _ _ (by simp only [Bool.and_eq_true] at h1c; obtain ⟨⟨⟨⟨a6, a7⟩, a8⟩, a11⟩, a12⟩ := h1c; rw [a6, a7, a8, a11, a12]; rfl)⟩
  clear h1c
  have hBU : But k w W := by rw [hW]; exact (But.of_below (Below.refl _ _)).setCell 3 _
  have HBU : Hid (But k w W) := hBU
  have hVW := henv.but hBU hkg
  have HCP : Hid (Calls Tryz.prog 187 #[.string ⟨m.toArray⟩, .string ⟨#[47, 47]⟩] W fun e w' => e = .returned (.tuple #[.string ⟨(Lib.trimPrefix m [47, 47]).toArray⟩, .bool (Lib.hasPrefix m [47, 47])]) ∧ w' = W) := Tryz.strings_CutPrefix ⟨m.toArray⟩ ⟨#[47, 47]⟩ W
  cases h2 : List.isPrefixOf [47, 47] m with
  | true =>
    have ht : Lib.trimPrefix m [47, 47] = m.drop 2 := by unfold Lib.trimPrefix; rw [two_pre, h2]; rfl
    rw [ht, two_pre, h2] at HCP
    have HE : Hid (readFile hostTell m q ob = match fileRead sFile (m.drop 2) (.string ⟨#[]⟩) with | .error n => .error n | .ok p => .ok (fileAuth (if isDrive (cutSlash (m.drop 2)).1 then [] else ((fileHost hostTell (cutSlash (m.drop 2)).1).getD [])), ⟨false, [], p.2⟩, q)) := by
      show _ = _
      unfold readFile fileRead
      rw [if_pos h2]
      simp only
      cases hd : isDrive (cutSlash (m.drop 2)).1 with
      | true => rfl
      | false =>
        simp only [Bool.false_eq_true, if_false]
        cases hfh : fileHost hostTell (cutSlash (m.drop 2)).1 with
        | none => rfl
        | some h => rfl
    have HFH : Hid (Calls Tryz.prog 188 #[.pointer (some ⟨k, 0, none⟩), .string ⟨(m.drop 2).toArray⟩] W fun e w' => But k W w' ∧ Tryz.FileRes k sFile (.string ⟨#[]⟩) (.string ⟨#[]⟩) (.bool true) (.int .i64 (-1)) (.bool q.isSome) (.string ⟨(q.getD []).toArray⟩) c11 c12 W.heap.size (fileRead sFile (m.drop 2) (.string ⟨#[]⟩)) e w' ∧ (∀ n, fileRead sFile (m.drop 2) (.string ⟨#[]⟩) = .error n → w'.heap[k]? = W.heap[k]?)) := Tryz.readFileHost_any k sFile (m.drop 2) _ _ _ _ _ c6 c7 c8 _ _ c11 c12 W (by rw [List.length_drop]; omega) g3 hkg hVW
    clear h2 ht hk henv g3 hVW hBU hbase
    go_enter Tryz.func150, Tryz.ntmps150
    go_wp2_with fail
    rw [← hW]
    refine HCP.out.mono ?_
    rintro e w1 ⟨rfl, hw0⟩
    have hw0 := hw0.symm
    subst hw0
    clear hW
    go_wp2_with fail
    refine HFH.out.mono ?_
    rintro e w2 ⟨hb, hr, hx⟩
    obtain ⟨ev, rfl⟩ := Tryz.fileRes_ret hr
    have HX : Hid (∀ n, readFile hostTell m q ob = .error n → Tryz.Thirteen k w2) := by
      intro n hn
      rw [HE.out] at hn
      cases hfr : fileRead sFile (m.drop 2) (.string ⟨#[]⟩) with
      | error n2 =>
        obtain ⟨cs, h1, h2⟩ := H13.out
        exact ⟨cs, (hx n2 hfr).trans h1, h2⟩
      | ok p => rw [hfr] at hn; cases hn
    have HF : Hid (Tryz.MidRes k sFile c11 c12 (readFile hostTell m q ob) (.returned ev) w2) := by
      show Tryz.MidRes _ _ _ _ _ _ _
      rw [HE.out]
      unfold fileRead at hr ⊢
      cases hd : isDrive (cutSlash (m.drop 2)).1 with
      | true =>
        rw [hd] at hr
        obtain ⟨h1, v, h3, h4⟩ := hr
        exact ⟨h1, v, h3, own_seg h4⟩
      | false =>
        rw [hd] at hr
        simp only [Bool.false_eq_true, if_false] at hr ⊢
        cases hfh : fileHost hostTell (cutSlash (m.drop 2)).1 with
        | none => rw [hfh] at hr; exact hr
        | some h =>
          rw [hfh] at hr
          obtain ⟨h1, v, h3, h4⟩ := hr
          exact ⟨h1, v, h3, own_seg h4⟩
    have HB : Hid (But k w w2) := HBU.out.trans hb
    clear hr hb hx
    go_wp2
    go_ret
    exact ⟨HB.out, HF.out, HX.out⟩
  | false =>
    rw [two_pre, h2] at HCP
    cases ob with
    | none =>
      have hbp : bp = none := hbase
      subst hbp
      have HE : Hid (readFile hostTell m q none = .ok (fileAuth [], readWay sFile [] m, q)) := by show _ = _; unfold readFile; rw [if_neg (by simp [h2])]
      have HRP : Hid (Calls Tryz.prog 88 #[.pointer (some ⟨k, 0, none⟩), .slice none 0 0, .string ⟨m.toArray⟩] W fun e w' => e = .returned (.tuple #[]) ∧ But k W w' ∧ ∃ v, w'.heap[k]? = some (.cells #[.string ⟨sFile.toArray⟩, .string ⟨#[]⟩, .string ⟨#[]⟩, .bool true, .string ⟨#[]⟩, .int .i64 (-1), .bool false, .string ⟨#[]⟩, v, .bool q.isSome, .string ⟨(q.getD []).toArray⟩, c11, c12] 52 (0, 0)) ∧ w'.ownsRow W.heap.size 9 1 v (readSegs sFile [] m).length (strs (readSegs sFile [] m))) := Tryz.readPath_any k sFile m _ _ _ _ _ c6 c7 c8 _ _ c11 c12 none 0 [] W hm (by simp) (by simp) g3 (by simp) hVW
      clear h2 hk henv g3 hVW hBU hbase
      generalize Lib.trimPrefix m [47, 47] = tp at *
      go_enter Tryz.func150, Tryz.ntmps150
      go_wp2_with fail
      rw [← hW]
      refine HCP.out.mono ?_
      rintro e w1 ⟨rfl, hw0⟩
      have hw0 := hw0.symm
      subst hw0
      clear hW
      go_wp2_with fail
      refine HRP.out.mono ?_
      rintro e w2 ⟨rfl, hb, v, h3, h4⟩
      have HF : Hid (Tryz.MidRes k sFile c11 c12 (.ok (fileAuth [], readWay sFile [] m, q)) (.returned .nilIface) w2) := ⟨rfl, v, h3, own_seg h4⟩
      have HB : Hid (But k w w2) := HBU.out.trans hb
      clear h3 h4 hb
      go_wp2
      go_ret
      rw [HE.out]
      exact ⟨HB.out, HF.out, fun n h => by cases h⟩
    | some b =>
      have hbW := hbase.but hBU
      obtain ⟨kb, bv, rfl, hkb, hcl, hsr, hoff, hbl, hbx⟩ := hbW
      have HE : Hid (readFile hostTell m q (some b) = .ok (fileAuth b.auth.host, (fileBeside m q b).1, (fileBeside m q b).2)) := by
        show _ = _
        unfold readFile fileBeside
        rw [if_neg (by simp [h2])]
        simp only
        cases hd : isDrive (cutSlash (trimSlash m)).1 with
        | true => rfl
        | false =>
          simp only [Bool.false_eq_true, if_false]
          split <;> rfl
      have hwkb : W.heap[kb]? = some (.cells (adrCells b bv) 52 (0, 0)) := hcl
      have b4 : W.cell? ⟨kb, 4, none⟩ = some (.string ⟨b.auth.host.toArray⟩) := cell_heap hcl 4
      have k4 : W.cell? ⟨k, 4, none⟩ = some (.string ⟨#[]⟩) := cell_heap g3 4
      have f4 := frozen_heap g3 4
      have g4 := heap_setCell_same W k 4 _ 52 (.string ⟨b.auth.host.toArray⟩) g3
      obtain ⟨V, hV⟩ : ∃ V, V = W.setCell ⟨k, 4, none⟩ (.string ⟨b.auth.host.toArray⟩) := ⟨_, rfl⟩
      rw [← hV] at g4
      have hBV : But k W V := by rw [hV]; exact (But.of_below (Below.refl _ _)).setCell 4 _
      have hclV : V.heap[kb]? = some (.cells (adrCells b bv) 52 (0, 0)) := (hBV.block kb (Array.getElem?_eq_some_iff.1 hcl).1 hkb).trans hcl
      have HRB : Hid (Calls Tryz.prog 189 #[.pointer (some ⟨k, 0, none⟩), .string ⟨m.toArray⟩, .agg (adrCells b bv)] V fun e w' => e = .returned (.tuple #[]) ∧ But k V w' ∧ Tryz.PathRes k sFile (.string ⟨#[]⟩) (.string ⟨#[]⟩) (.bool true) (.string ⟨b.auth.host.toArray⟩) (.int .i64 (-1)) c11 c12 (fileBeside m q b) w') := Tryz.readFileBeside_any k m q b bv _ _ _ _ _ c6 c7 c8 c11 c12 V hm g4 (segRow_but hsr hBV hoff) hoff hbl hbx (hVW.but hBV hkg)
      have HBV : Hid (But k w V) := HBU.out.trans hBV
      generalize hcell : adrCells b bv = AC at *
      have hAC : ∃ x0 x1 x2 x3 x4 x5 x6 x7 x8 x9 x10 x11 x12, AC = #[x0, x1, x2, x3, x4, x5, x6, x7, x8, x9, x10, x11, x12] := ⟨_, _, _, _, _, _, _, _, _, _, _, _, _, hcell.symm⟩
      obtain ⟨x0, x1, x2, x3, x4, x5, x6, x7, x8, x9, x10, x11, x12, rfl⟩ := hAC
      have y0 : W.cell? ⟨kb, 0, none⟩ = some x0 := cell_heap hcl 0
      have y1 : W.cell? ⟨kb, 1, none⟩ = some x1 := cell_heap hcl 1
      have y2 : W.cell? ⟨kb, 2, none⟩ = some x2 := cell_heap hcl 2
      have y3 : W.cell? ⟨kb, 3, none⟩ = some x3 := cell_heap hcl 3
      have y4 : W.cell? ⟨kb, 4, none⟩ = some x4 := cell_heap hcl 4
      have y5 : W.cell? ⟨kb, 5, none⟩ = some x5 := cell_heap hcl 5
      have y6 : W.cell? ⟨kb, 6, none⟩ = some x6 := cell_heap hcl 6
      have y7 : W.cell? ⟨kb, 7, none⟩ = some x7 := cell_heap hcl 7
      have y8 : W.cell? ⟨kb, 8, none⟩ = some x8 := cell_heap hcl 8
      have y9 : W.cell? ⟨kb, 9, none⟩ = some x9 := cell_heap hcl 9
      have y10 : W.cell? ⟨kb, 10, none⟩ = some x10 := cell_heap hcl 10
      have y11 : W.cell? ⟨kb, 11, none⟩ = some x11 := cell_heap hcl 11
      have y12 : W.cell? ⟨kb, 12, none⟩ = some x12 := cell_heap hcl 12
      have hkb2 : k ≠ kb := fun h => hkb h.symm
      clear b4
      have b4 : (Value.string ⟨b.auth.host.toArray⟩) = x4 := by simp only [adrCells, Array.mk.injEq, List.cons.injEq] at hcell; exact hcell.2.2.2.2.1
      subst b4
      clear h2 hk henv g3 hVW hBU hbase hcl hsr hoff hbl hbx hclV hBV hcell hwkb g4
      generalize Lib.trimPrefix m [47, 47] = tp at *
      generalize hhost : (⟨b.auth.host.toArray⟩ : ByteArray) = host at *
      have HH : Hid ((⟨b.auth.host.toArray⟩ : ByteArray) = host) := hhost
      clear hhost
      go_enter Tryz.func150, Tryz.ntmps150
      go_wp2_with fail
      rw [← hW]
      refine HCP.out.mono ?_
      rintro e w1 ⟨rfl, hw0⟩
      have hw0 := hw0.symm
      subst hw0
      clear hW
      go_wp2_with fail
      rw [← hV]
      clear hV
      refine Calls.mono HRB.out ?_
      rintro e w2 ⟨rfl, hb, hr⟩
      have HF : Hid (But k w w2 ∧ Tryz.MidRes k sFile c11 c12 (.ok (fileAuth b.auth.host, (fileBeside m q b).1, (fileBeside m q b).2)) (.returned .nilIface) w2) := by
        refine ⟨HBV.out.trans hb, rfl, ?_⟩
        rw [← HH.out] at hr
        exact hr
      clear hb hr
      go_wp2
      go_ret
      rw [HE.out]
      exact ⟨HF.out.1, HF.out.2, fun n h => by cases h⟩
end Go.Proofs
