/-
  What readPath of package address does to the address that it is handed.
-/
import Derived.Test.YtkcnageeamappaaGreatDoorJASegs2
namespace Go.Proofs
open Go.RowKit Go.Moor

/-- All that was there is as it was, but block k. -/
structure But (k : Nat) (w w' : World) : Prop where
  os : w'.os = w.os
  tape : w'.tape = w.tape
  output : w'.output = w.output
  size : w.heap.size ≤ w'.heap.size
  block : ∀ j, j < w.heap.size → j ≠ k → w'.heap[j]? = w.heap[j]?
theorem But.trans {k : Nat} {a b c : World} (h1 : But k a b) (h2 : But k b c) : But k a c :=
  ⟨h2.os.trans h1.os, h2.tape.trans h1.tape, h2.output.trans h1.output, Nat.le_trans h1.size h2.size, fun j hj hn => (h2.block j (Nat.lt_of_lt_of_le hj h1.size) hn).trans (h1.block j hj hn)⟩
theorem But.of_below {k : Nat} {a b : World} (h : Below a.heap.size a b) : But k a b := ⟨h.os, h.tape, h.output, h.size, fun j hj _ => h.block j hj⟩
theorem But.setCell {k : Nat} {a b : World} (h : But k a b) (i : Nat) (v : Value) : But k a (b.setCell ⟨k, i, none⟩ v) :=
  ⟨h.os, h.tape, h.output, by simpa using h.size, fun j hj hn => (heap_setCell_other b ⟨k, i, none⟩ j v hn).trans (h.block j hj hn)⟩
/-- Below k, if that block was made last. -/
theorem But.below {k : Nat} {a b : World} (h : But k a b) (hk : k ≤ a.heap.size) : Below k a b := ⟨h.os, h.tape, h.output, h.size, fun j hj => h.block j (by omega) (by omega)⟩

theorem results_none {fn : Func} (h : fn.results = #[]) (tmps : Array Value) (P : Program) (w : World) : (results fn tmps).run P w = .ok (.tuple #[]) w := by
  simp [results, h]
set_option maxHeartbeats 2000000 in
theorem Tryz.readPath_any (k : Nat) (sc t : Bs) (c1 c2 c3 c4 c5 c6 c7 c8 c9 c10 c11 c12 : Value) (sp : Option Go.Addr) (cap : Nat) (begun : List Bs) (w : World) (ht : t.length ≤ 100000) (hbl : begun.length ≤ 1000000) (hbx : ∀ x ∈ begun, x.length ≤ 1000000)
    (hk : w.heap[k]? = some (.cells #[.string ⟨sc.toArray⟩, c1, c2, c3, c4, c5, c6, c7, c8, c9, c10, c11, c12] 77 (0, 0)))
    (hform : begun ≠ [] → ∃ g, sp = some ⟨g, 0, none⟩ ∧ ∀ (j : Nat) x, begun[j]? = some x → w.cell? ⟨g, j, none⟩ = some (.string ⟨x.toArray⟩)) (henv : Tryz.Env2 w) :
    Calls Tryz.prog 163 #[.pointer (some ⟨k, 0, none⟩), .slice sp begun.length cap, .string ⟨t.toArray⟩] w fun e w' => e = .returned (.tuple #[]) ∧ But k w w' ∧ ∃ v, w'.heap[k]? = some (.cells #[.string ⟨sc.toArray⟩, c1, c2, c3, c4, c5, .bool false, .string ⟨#[]⟩, v, c9, c10, c11, c12] 77 (0, 0)) ∧ w'.ownsRow w.heap.size 9 1 v (readSegs sc begun t).length (strs (readSegs sc begun t)) := by
  have HR : Hid (Calls Tryz.prog 212 #[.string ⟨sc.toArray⟩, .slice sp begun.length cap, .string ⟨t.toArray⟩] w fun e w' => (∃ v, e = .returned v ∧ w'.ownsRow w.heap.size 9 1 v (readSegs sc begun t).length (strs (readSegs sc begun t))) ∧ Below w.heap.size w w') := Tryz.readSegments_any sc t sp cap begun w ht hbl hbx hform henv
  have hkz : k < w.heap.size := (Array.getElem?_eq_some_iff.1 hk).1
  have HK : Hid (∀ w1, Below w.heap.size w w1 → w1.heap[k]? = some (.cells #[.string ⟨sc.toArray⟩, c1, c2, c3, c4, c5, c6, c7, c8, c9, c10, c11, c12] 77 (0, 0))) := fun w1 h1 => (h1.block k hkz).trans hk
  have h0 : w.cell? ⟨k, 0, none⟩ = some (.string ⟨sc.toArray⟩) := cell_heap hk 0
  generalize readSegs sc begun t = segs at *
  clear hform henv ht hbl hbx hk
  go_enter Tryz.func163, Tryz.ntmps163
  go_wp2_with fail
  refine HR.out.mono ?_
  rintro e w1 ⟨⟨v, rfl, ho⟩, b1⟩
  have HO : Hid (w1.ownsRow w.heap.size 9 1 v segs.length (strs segs)) := ho
  have HB : Hid (Below w.heap.size w w1) := b1
  have hk1 := HK.out w1 b1
  have HK1 : Hid (w1.heap[k]? = some (.cells #[.string ⟨sc.toArray⟩, c1, c2, c3, c4, c5, c6, c7, c8, c9, c10, c11, c12] 77 (0, 0))) := hk1
  have d6 : w1.cell? ⟨k, 6, none⟩ = some c6 := cell_heap hk1 6
  have d7 : w1.cell? ⟨k, 7, none⟩ = some c7 := cell_heap hk1 7
  have d8 : w1.cell? ⟨k, 8, none⟩ = some c8 := cell_heap hk1 8
  have f6 := frozen_heap hk1 6
  have f7 := frozen_heap hk1 7
  have f8 := frozen_heap hk1 8
  obtain ⟨sp2, cap2, hvf, _⟩ := own_shape ho
  subst hvf
  clear ho b1 hk1
  go_wp2
  have g6 := heap_setCell_same w1 k 6 _ 77 (.bool false) HK1.out
  have g7 := heap_setCell_same _ k 7 _ 77 (.string ⟨#[]⟩) g6
  have g8 := heap_setCell_same _ k 8 _ 77 (.slice sp2 segs.length cap2) g7
  have hbut := (((But.of_below (k := k) HB.out).setCell 6 (.bool false)).setCell 7 (.string ⟨#[]⟩)).setCell 8 (.slice sp2 segs.length cap2)
  have ho2 := ownsRow_setCell_below (ownsRow_setCell_below (ownsRow_setCell_below HO.out (a := ⟨k, 6, none⟩) hkz (.bool false)) (a := ⟨k, 7, none⟩) hkz (.string ⟨#[]⟩)) (a := ⟨k, 8, none⟩) hkz (.slice sp2 segs.length cap2)
  exact bodyPost_end (v := .tuple #[]) (results_none rfl _ _ _) rfl ⟨rfl, hbut, _, g8, ho2⟩
end Go.Proofs
/-
  What readFromAuthority of package address does to the address that it is handed.
-/
namespace Go.Proofs
open Go.RowKit Go.Moor

theorem But.mono_own {w : World} {b b' : Nat} {e : TypeId} {v : Value} {n : Nat} {xs : List Value} (h : w.ownsRow b e 1 v n xs) (hb : b' ≤ b) : w.ownsRow b' e 1 v n xs := by
  refine ⟨h.1, ?_⟩
  rcases h.2 with h1 | ⟨g, cap, cur, h1, h2, h3⟩
  · exact Or.inl h1
  · exact Or.inr ⟨g, cap, cur, h1, Nat.le_trans hb h2, h3⟩

theorem But.alloc {k : Nat} {a b : World} (h : But k a b) (o : Obj) : But k a (b.alloc o) := by
  refine ⟨h.os, h.tape, h.output, by have := h.size; simp; omega, fun j hj hn => ?_⟩
  rw [← h.block j hj hn]
  have := h.size
  simp only [World.alloc, Array.getElem?_push]
  rw [if_neg (by omega)]
theorem heap_alloc_lt (w : World) (o : Obj) (k : Nat) (h : k < w.heap.size) : (w.alloc o).heap[k]? = w.heap[k]? := by
  simp only [World.alloc, Array.getElem?_push]
  rw [if_neg (by omega)]
theorem Tryz.Env.same {w w' : World} (h : Tryz.Env w) (hz : w.heap.size ≤ w'.heap.size) (H : ∀ g, g < 29 → w'.heap[g]? = w.heap[g]?) : Tryz.Env w' := by
  have hc : ∀ g i, g < 29 → w'.cell? ⟨g, i, none⟩ = w.cell? ⟨g, i, none⟩ := fun g i hg => World.cell?_of_block (a := ⟨g, i, none⟩) (H g hg)
  have he : ∀ g, g < 29 → Tryz.Err g w → Tryz.Err g w' := by
    rintro g hg ⟨t, v, h1⟩
    exact ⟨t, v, by rw [hc g 0 hg]; exact h1⟩
  obtain ⟨m, hm⟩ := h.maxLen
  refine ⟨Nat.le_trans h.size hz, ?_, ⟨m, by rw [hc _ 0 (by omega)]; exact hm⟩, he _ (by omega) h.eEmpty, he _ (by omega) h.eBracket, he _ (by omega) h.eCount, he _ (by omega) h.eLength, he _ (by omega) h.eNought, he _ (by omega) h.eGreat, ?_, by rw [hc _ 0 (by omega)]; exact h.errType⟩
  · intro j hj
    rw [hc _ j (by omega)]
    exact h.sets j hj
  · have := h.pow10
    unfold Lib.TabIs at this ⊢
    rw [← this]
    simp only [World.var?, Tryz.gPow, Option.bind_some, H 20 (by omega)]
theorem Tryz.Env2.same {w w' : World} (h : Tryz.Env2 w) (hz : w.heap.size ≤ w'.heap.size) (H : ∀ g, g < 29 → w'.heap[g]? = w.heap[g]?) : Tryz.Env2 w' := by
  have hc : ∀ g i, g < 29 → w'.cell? ⟨g, i, none⟩ = w.cell? ⟨g, i, none⟩ := fun g i hg => World.cell?_of_block (a := ⟨g, i, none⟩) (H g hg)
  have he : ∀ g, g < 29 → Tryz.Err g w → Tryz.Err g w' := by
    rintro g hg ⟨t, v, h1⟩
    exact ⟨t, v, by rw [hc g 0 hg]; exact h1⟩
  refine ⟨h.env.same hz H, ?_, ⟨fun c hx => ?_, fun i hi => ⟨?_, ?_⟩⟩, he _ (by omega) h.eBase, he _ (by omega) h.eOpaque, he _ (by omega) h.eHost, he _ (by omega) h.eSyntax, he _ (by omega) h.eRange⟩
  · show _ = _
    rw [hc _ 15 (by omega)]
    exact h.tz
  · rw [hc _ c (by omega)]
    exact h.u8.1 c hx
  · rw [hc _ (2 * i) (by omega)]
    exact (h.u8.2 i hi).1
  · rw [hc _ (2 * i + 1) (by omega)]
    exact (h.u8.2 i hi).2
theorem Tryz.Env2.but {k : Nat} {w w' : World} (h : Tryz.Env2 w) (hb : But k w w') (hk : 29 ≤ k) : Tryz.Env2 w' := h.same hb.size fun g hg => hb.block g (by have := h.env.size; omega) (by omega)

/-- What reading an authority and a path leaves in the address's block, or the error. -/
def Tryz.FromRes (k : Nat) (sc : Bs) (c9 c10 c11 c12 : Value) (B : Nat) (o : Except Int (Auth × Moor.Way)) (e : Ending) (w' : World) : Prop :=
  match o with
  | .error n => ∃ x y te ve, e = .returned (.iface 96 (.agg #[.int .i64 n, .string x, .string y, .iface te ve]))
  | .ok (a, y) => e = .returned .nilIface ∧ ∃ v, w'.heap[k]? = some (.cells #[.string ⟨sc.toArray⟩, .string ⟨a.user.toArray⟩, .string ⟨a.pass.toArray⟩, .bool a.has, .string ⟨a.host.toArray⟩, .int .i64 a.port, .bool false, .string ⟨#[]⟩, v, c9, c10, c11, c12] 77 (0, 0)) ∧ w'.ownsRow B 9 1 v y.segs.length (strs y.segs) ∧ y.opaq = false ∧ y.text = []

set_option maxHeartbeats 4000000 in
theorem Tryz.readFromAuthority_any (k : Nat) (sc t : Bs) (c1 c2 c3 c4 c5 c6 c7 c8 c9 c10 c11 c12 : Value) (w : World) (ht : t.length ≤ 100000)
    (hk : w.heap[k]? = some (.cells #[.string ⟨sc.toArray⟩, c1, c2, c3, c4, c5, c6, c7, c8, c9, c10, c11, c12] 77 (0, 0))) (hkg : 29 ≤ k) (henv : Tryz.Env2 w) :
    Calls Tryz.prog 246 #[.pointer (some ⟨k, 0, none⟩), .string ⟨t.toArray⟩] w fun e w' => But k w w' ∧ Tryz.FromRes k sc c9 c10 c11 c12 w.heap.size (fromAuth hostTell sc t) e w' ∧ (∀ n, fromAuth hostTell sc t = .error n → w'.heap[k]? = w.heap[k]?) := by
  have hkz : k < w.heap.size := (Array.getElem?_eq_some_iff.1 hk).1
  have HCS : Hid (Calls Tryz.prog 281 #[.string ⟨t.toArray⟩] w fun e w' => e = .returned (.tuple #[.string ⟨(cutSlash t).1.toArray⟩, .string ⟨(cutSlash t).2.toArray⟩]) ∧ Below w.heap.size w w') := by
    refine (Tryz.cutAtSlash_any t w).mono ?_
    rintro e w' ⟨rfl, n, rfl⟩
    exact ⟨rfl, drew_here _ _ _⟩
  have hl := cutSlash_len t
  have HE : Hid (fromAuth hostTell sc t = match readAuth hostTell (cutSlash t).1 sc with | .error e => .error e | .ok a => .ok (a, readWay sc [] (cutSlash t).2)) := rfl
  generalize (cutSlash t).1 = ah at *
  generalize (cutSlash t).2 = be at *
  have HRA : Hid (∀ w1, Below w.heap.size w w1 → Calls Tryz.prog 282 #[.string ⟨ah.toArray⟩, .string ⟨sc.toArray⟩] w1 fun e w' => Tryz.AuthRes (readAuth hostTell ah sc) e ∧ Below w.heap.size w w') := by
    intro w1 h1
    refine (Tryz.readAuthority_any ah sc w1 (by omega) (henv.below h1)).mono ?_
    rintro e w' ⟨hr, hb⟩
    exact ⟨hr, h1.trans (hb.mono h1.size)⟩
  have HK : Hid (∀ w1, Below w.heap.size w w1 → w1.heap[k]? = some (.cells #[.string ⟨sc.toArray⟩, c1, c2, c3, c4, c5, c6, c7, c8, c9, c10, c11, c12] 77 (0, 0))) := fun w1 h1 => (h1.block k hkz).trans hk
  have HRP : Hid (∀ (a : Auth) w1, But k w w1 → Tryz.Env2 w1 → w1.heap[k]? = some (.cells #[.string ⟨sc.toArray⟩, .string ⟨a.user.toArray⟩, .string ⟨a.pass.toArray⟩, .bool a.has, .string ⟨a.host.toArray⟩, .int .i64 a.port, c6, c7, c8, c9, c10, c11, c12] 77 (0, 0)) → Calls Tryz.prog 163 #[.pointer (some ⟨k, 0, none⟩), .slice none 0 0, .string ⟨be.toArray⟩] w1 fun e w' => e = .returned (.tuple #[]) ∧ But k w w' ∧ ∃ v, w'.heap[k]? = some (.cells #[.string ⟨sc.toArray⟩, .string ⟨a.user.toArray⟩, .string ⟨a.pass.toArray⟩, .bool a.has, .string ⟨a.host.toArray⟩, .int .i64 a.port, .bool false, .string ⟨#[]⟩, v, c9, c10, c11, c12] 77 (0, 0)) ∧ w'.ownsRow w.heap.size 9 1 v (readSegs sc [] be).length (strs (readSegs sc [] be))) := by
    intro a w1 h1 hv hh
    refine (Tryz.readPath_any k sc be _ _ _ _ _ c6 c7 c8 c9 c10 c11 c12 none 0 [] w1 (by omega) (by simp) (by simp) hh (by simp) hv).mono ?_
    rintro e w' ⟨rfl, hb, v, h2, h3⟩
    exact ⟨rfl, h1.trans hb, v, h2, But.mono_own h3 h1.size⟩
  have HV : Hid (Tryz.Env2 w) := henv
  have h0 : ∀ w1, Below w.heap.size w w1 → w1.cell? ⟨k, 0, none⟩ = some (.string ⟨sc.toArray⟩) := fun w1 h1 => cell_heap (HK.out w1 h1) 0
  have H0 : Hid (∀ w1, Below w.heap.size w w1 → w1.cell? ⟨k, 0, none⟩ = some (.string ⟨sc.toArray⟩)) := h0
  clear h0 henv hk hl ht
  cases hra : readAuth hostTell ah sc with
  | error n =>
    have HE2 : Hid (fromAuth hostTell sc t = .error n) := by show _ = _; rw [HE.out, hra]
    rw [hra] at HRA
    clear hra HE
    go_enter Tryz.func246, Tryz.ntmps246
    go_wp2_with fail
    refine HCS.out.mono ?_
    rintro e w1 ⟨rfl, b1⟩
    have d0 := H0.out w1 b1
    go_wp2_with fail
    refine (HRA.out w1 b1).mono ?_
    rintro e w2 ⟨⟨x, y, te, ve, rfl⟩, b2⟩
    unfold zeroAuth
    go_wp2
    go_ret
    rw [HE2.out]
    exact ⟨(But.of_below b2).alloc _, ⟨_, _, _, _, rfl⟩, fun _ _ => (heap_alloc_lt _ _ k (Nat.lt_of_lt_of_le hkz b2.size)).trans (b2.block k hkz)⟩
  | ok a =>
    have HE2 : Hid (fromAuth hostTell sc t = .ok (a, readWay sc [] be)) := by show _ = _; rw [HE.out, hra]
    rw [hra] at HRA
    clear hra HE
    go_enter Tryz.func246, Tryz.ntmps246
    go_wp2_with fail
    refine HCS.out.mono ?_
    rintro e w1 ⟨rfl, b1⟩
    have d0 := H0.out w1 b1
    go_wp2_with fail
    refine (HRA.out w1 b1).mono ?_
    rintro e w2 ⟨he, b2⟩
    have he2 : e = .returned (.tuple #[.agg #[.string ⟨a.user.toArray⟩, .string ⟨a.pass.toArray⟩, .bool a.has, .string ⟨a.host.toArray⟩, .int .i64 a.port], .nilIface]) := he
    subst he2
    have hk2 := HK.out w2 b2
    have HK2 : Hid (w2.heap[k]? = some (.cells #[.string ⟨sc.toArray⟩, c1, c2, c3, c4, c5, c6, c7, c8, c9, c10, c11, c12] 77 (0, 0))) := hk2
    have HB2 : Hid (Below w.heap.size w w2) := b2
    have hz2 : k < w2.heap.size := Nat.lt_of_lt_of_le hkz b2.size
    have e1 : w2.cell? ⟨k, 1, none⟩ = some c1 := cell_heap hk2 1
    have e2 : w2.cell? ⟨k, 2, none⟩ = some c2 := cell_heap hk2 2
    have e3 : w2.cell? ⟨k, 3, none⟩ = some c3 := cell_heap hk2 3
    have e4 : w2.cell? ⟨k, 4, none⟩ = some c4 := cell_heap hk2 4
    have e5 : w2.cell? ⟨k, 5, none⟩ = some c5 := cell_heap hk2 5
    have f1 := frozen_heap hk2 1
    have f2 := frozen_heap hk2 2
    have f3 := frozen_heap hk2 3
    have f4 := frozen_heap hk2 4
    have f5 := frozen_heap hk2 5
    clear he b1 b2 hk2 d0
    have g1 := heap_setCell_same w2 k 1 _ 77 (.string ⟨a.user.toArray⟩) HK2.out
    have g2 := heap_setCell_same _ k 2 _ 77 (.string ⟨a.pass.toArray⟩) g1
    have g3 := heap_setCell_same _ k 3 _ 77 (.bool a.has) g2
    have g4 := heap_setCell_same _ k 4 _ 77 (.string ⟨a.host.toArray⟩) g3
    have g5 := heap_setCell_same _ k 5 _ 77 (.int .i64 a.port) g4
    have hbut := ((((((But.of_below (k := k) HB2.out).setCell 1 (.string ⟨a.user.toArray⟩)).setCell 2 (.string ⟨a.pass.toArray⟩)).setCell 3 (.bool a.has)).setCell 4 (.string ⟨a.host.toArray⟩)).setCell 5 (.int .i64 a.port)).alloc (.cells #[.string ⟨a.user.toArray⟩, .string ⟨a.pass.toArray⟩, .bool a.has, .string ⟨a.host.toArray⟩, .int .i64 a.port] 71)
    have HRP2 := HRP.out a _ hbut (HV.out.but hbut hkg) ((heap_alloc_lt _ _ k (by simpa using hz2)).trans g5)
    have HRP3 : Hid _ := HRP2
    clear g1 g2 g3 g4 g5 hbut HRP2
    go_wp2_with fail
    refine Calls.mono HRP3.out ?_
    rintro e w3 ⟨rfl, hb3, v, h3, ho3⟩
    have HF : Hid (Tryz.FromRes k sc c9 c10 c11 c12 w.heap.size (.ok (a, readWay sc [] be)) (.returned .nilIface) w3) := ⟨rfl, v, h3, ho3, rfl, rfl⟩
    have HB3 : Hid (But k w w3) := hb3
    clear hb3 h3 ho3
    go_wp2
    go_ret
    rw [HE2.out]
    exact ⟨HB3.out, HF.out, fun n h => by cases h⟩
end Go.Proofs
