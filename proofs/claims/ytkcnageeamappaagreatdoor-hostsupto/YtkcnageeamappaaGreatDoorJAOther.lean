/-
  What escapeOpaque of package address answers.
-/
import Derived.Test.YtkcnageeamappaaGreatDoorJAFile2
import Derived.Test.YtkcnageeamappaaGreatDoorJATrim
namespace Go.Proofs
open Go.RowKit Go.Moor

set_option maxHeartbeats 1000000 in
theorem Tryz.escapeOpaque_any (l : Bs) (w : World) (hs : l.length ≤ 100000) (henv : Tryz.Env w) :
    Calls Tryz.prog 283 #[.string ⟨l.toArray⟩] w fun e w' => e = .returned (.string ⟨(escOpaque l).toArray⟩) ∧ Below w.heap.size w w' := by
  have HT : Hid (Calls Tryz.prog 62 #[.string ⟨l.toArray⟩, .int .i64 0] w fun e w' => e = .returned (.string ⟨(esc 0 l).toArray⟩) ∧ Below w.heap.size w w') := Tryz.text_any ⟨l.toArray⟩ 0 w (by rw [size_mk]; omega) henv.sets (by have := henv.size; omega)
  have hel := esc_le 0 l
  have HR : Hid (∀ w1, Tryz.Env w1 → Calls Tryz.prog 107 #[.string ⟨(esc 0 l).toArray⟩, .string ⟨#[32]⟩, .string ⟨#[37, 50, 48]⟩] w1 fun e w' => e = .returned (.string ⟨(escOpaque l).toArray⟩) ∧ Below w1.heap.size w1 w') := by
    intro w1 hv
    obtain ⟨m, hm⟩ := hv.maxLen
    have hcn := countB_le ⟨(esc 0 l).toArray⟩ ⟨#[32]⟩
    rw [size_mk] at hcn
    refine (Tryz.strings_ReplaceAll ⟨(esc 0 l).toArray⟩ ⟨#[32]⟩ ⟨#[37, 50, 48]⟩ m w1 (by rw [size_mk]; omega) hm (by decide) (by rw [size_mk]; show _ + _ * 3 ≤ _; omega)).mono ?_
    rintro e w' ⟨rfl, hb⟩
    refine ⟨?_, hb⟩
    have e1 : Lib.replaceAll (⟨(esc 0 l).toArray⟩ : ByteArray).data.toList (⟨#[32]⟩ : ByteArray).data.toList (⟨#[37, 50, 48]⟩ : ByteArray).data.toList = escOpaque l := by
      show Lib.replaceAll (esc 0 l) [32] [37, 50, 48] = _
      rw [replaceAll_one]
      rfl
    rw [e1]
  have HV : Hid (Tryz.Env w) := henv
  clear henv hs hel
  go_enter Tryz.func283, Tryz.ntmps283
  go_wp2_with fail
  refine HT.out.mono ?_
  rintro e w1 ⟨rfl, b1⟩
  go_wp2_with fail
  refine (HR.out w1 (HV.out.below b1)).mono ?_
  rintro e w2 ⟨rfl, b2⟩
  go_wp2
  go_ret
  exact ⟨rfl, b1.trans (b2.mono b1.size)⟩
end Go.Proofs
/-
  What strip of package address answers.
-/
namespace Go.Proofs
open Go.RowKit Go.Moor

theorem Tryz.isBlank_any (x : Nat) (W : World) : Calls Tryz.prog 153 #[.int .i32 (x : Int)] W fun e w' => e = .returned (.bool (p33 x)) ∧ ∃ q, w' = W.drewN q := by
  have HE : Hid (decide ((x : Int) < 33) = p33 x) := by
    show _ = _
    unfold p33
    by_cases h : x < 33
    · rw [decide_eq_true h, decide_eq_true (by omega)]
    · rw [decide_eq_false h, decide_eq_false (by omega)]
  go_enter Tryz.func153, Tryz.ntmps153
  go_wp2
  go_ret
  rw [← HE.out]
  exact ⟨rfl, 0, rfl⟩

set_option maxHeartbeats 1000000 in
theorem Tryz.strip_any (l : Bs) (w : World) (hs : l.length < 4294967281) (henv : Tryz.Env2 w) :
    Calls Tryz.prog 94 #[.string ⟨l.toArray⟩] w fun e w' => e = .returned (.string ⟨(stripB l).toArray⟩) ∧ Below w.heap.size w w' := by
  have HT : Hid (Calls Tryz.prog 152 #[.string ⟨l.toArray⟩, .func (.func 153) #[] #[]] w fun e w' => e = .returned (.string ⟨(trimB blankB l).toArray⟩) ∧ Below w.heap.size w w') := by
    refine (Tryz.strings_TrimFunc 153 #[] (enters_of Tryz.func153 (by kernel_rfl) rfl) p33 ⟨l.toArray⟩ w (by rw [size_mk]; omega) henv.u8 (fun W x _ => Tryz.isBlank_any x W)).mono ?_
    rintro e w' ⟨rfl, hb⟩
    refine ⟨?_, hb⟩
    have h := trim33 ⟨l.toArray⟩
    have e2 : Lib.trimF p33 ⟨l.toArray⟩ = ⟨(trimB blankB l).toArray⟩ := by
      apply bytes_ext'
      rw [h]
    rw [e2]
  have htl : (trimB blankB l).length ≤ l.length := by
    unfold trimB
    have h1 : ∀ x : Bs, (x.dropWhile blankB).length ≤ x.length := fun x => (List.dropWhile_sublist _).length_le
    have h2 := h1 l
    have h3 := h1 (l.dropWhile blankB).reverse
    rw [List.length_reverse] at h3 ⊢
    omega
  have HW : Hid (∀ w1, Tryz.Env w1 → Calls Tryz.prog 61 #[.string ⟨(trimB blankB l).toArray⟩] w1 fun e w' => e = .returned (.string ⟨(stripB l).toArray⟩) ∧ Below w1.heap.size w1 w') := fun w1 hv => Tryz.withoutBreaks_any (trimB blankB l) w1 (by omega) hv
  have HV : Hid (Tryz.Env2 w) := henv
  clear henv hs htl
  go_enter Tryz.func94, Tryz.ntmps94
  go_wp2_with fail
  refine HT.out.mono ?_
  rintro e w1 ⟨rfl, b1⟩
  go_wp2_with fail
  refine (HW.out w1 (HV.out.below b1).env).mono ?_
  rintro e w2 ⟨rfl, b2⟩
  go_wp2
  go_ret
  exact ⟨rfl, b1.trans (b2.mono b1.size)⟩
end Go.Proofs
/-
  What readOther of package address does to the address that it is handed.
-/
namespace Go.Proofs
open Go.RowKit Go.Moor

/-- A row of texts that can be read. -/
def SegRow0 (w : World) (v : Value) (segs : List Bs) : Prop := ∃ sp cap, v = .slice sp segs.length cap ∧ segs.length ≤ cap ∧ cap ≤ maxLen ∧ (segs ≠ [] → ∃ g, sp = some ⟨g, 0, none⟩ ∧ ∀ (j : Nat) x, segs[j]? = some x → w.cell? ⟨g, j, none⟩ = some (.string ⟨x.toArray⟩))
/-- The row's block is one of texts. -/
def Tagged (w : World) (v : Value) : Prop := ∀ g n c, v = .slice (some ⟨g, 0, none⟩) n c → ∃ cur fr, w.heap[g]? = some (.cells cur 9 fr)
def SegRow (w : World) (v : Value) (segs : List Bs) : Prop := SegRow0 w v segs ∧ Tagged w v
theorem own_tag {w : World} {B : Nat} {v : Value} {n : Nat} {xs : List Value} (h : w.ownsRow B 9 1 v n xs) : Tagged w v := by
  intro g n c hv
  rcases h.2 with ⟨rfl, _⟩ | ⟨g2, cap, cur, rfl, _, h3, _⟩
  · cases hv
  · injection hv with hv _ _
    injection hv with hv
    injection hv with hv _
    subst hv
    exact ⟨cur, _, h3⟩
theorem own_seg {w : World} {B : Nat} {v : Value} {segs : List Bs} (h : w.ownsRow B 9 1 v segs.length (strs segs)) : SegRow w v segs := by
  refine ⟨?_, own_tag h⟩
  obtain ⟨sp, cap, hv, h1, h2, h3⟩ := own_shape h
  refine ⟨sp, cap, hv, h1, h2, fun hn => ?_⟩
  obtain ⟨g, hg, hc⟩ := h3 (List.length_pos_iff.2 hn)
  refine ⟨g, hg, fun j x hx => hc j _ ?_⟩
  unfold strs
  rw [List.getElem?_map, hx]
  rfl
/-- The authority and the path that are left in the address's block, or the error. -/
def Tryz.WayRes (k : Nat) (sc : Bs) (c9 c10 c11 c12 : Value) (o : Except Int (Auth × Moor.Way)) (e : Ending) (w' : World) : Prop :=
  match o with
  | .error n => ∃ x y te ve, e = .returned (.iface 96 (.agg #[.int .i64 n, .string x, .string y, .iface te ve]))
  | .ok (a, y) => e = .returned .nilIface ∧ ∃ v, w'.heap[k]? = some (.cells #[.string ⟨sc.toArray⟩, .string ⟨a.user.toArray⟩, .string ⟨a.pass.toArray⟩, .bool a.has, .string ⟨a.host.toArray⟩, .int .i64 a.port, .bool y.opaq, .string ⟨y.text.toArray⟩, v, c9, c10, c11, c12] 77 (0, 0)) ∧ SegRow w' v y.segs
theorem Tryz.way_of_from {k : Nat} {sc : Bs} {c9 c10 c11 c12 : Value} {B : Nat} {o : Except Int (Auth × Moor.Way)} {e : Ending} {w' : World} (h : Tryz.FromRes k sc c9 c10 c11 c12 B o e w') : Tryz.WayRes k sc c9 c10 c11 c12 o e w' := by
  cases o with
  | error n => exact h
  | ok p =>
    obtain ⟨a, y⟩ := p
    obtain ⟨he, v, h1, h2, h3, h4⟩ := h
    refine ⟨he, v, ?_, own_seg h2⟩
    rw [h3, h4]
    exact h1
theorem Tryz.fromRes_ret {k : Nat} {sc : Bs} {c9 c10 c11 c12 : Value} {B : Nat} {o : Except Int (Auth × Moor.Way)} {e : Ending} {w' : World} (h : Tryz.FromRes k sc c9 c10 c11 c12 B o e w') : ∃ v, e = .returned v := by
  cases o with
  | error n => obtain ⟨x, y, te, ve, rfl⟩ := h; exact ⟨_, rfl⟩
  | ok p =>
    obtain ⟨a, y⟩ := p
    obtain ⟨rfl, _⟩ := h
    exact ⟨_, rfl⟩
theorem two_pre (m : Bs) : Lib.hasPrefix m [47, 47] = List.isPrefixOf [47, 47] m := rfl

set_option maxHeartbeats 4000000 in
theorem Tryz.readOther_any (k : Nat) (sc m : Bs) (c6 c7 c8 c9 c10 c11 c12 : Value) (w : World) (hm : m.length ≤ 100000)
    (hk : w.heap[k]? = some (.cells #[.string ⟨sc.toArray⟩, .string ⟨#[]⟩, .string ⟨#[]⟩, .bool false, .string ⟨#[]⟩, .int .i64 (-1), c6, c7, c8, c9, c10, c11, c12] 77 (0, 0))) (hkg : 29 ≤ k) (henv : Tryz.Env2 w) :
    Calls Tryz.prog 248 #[.pointer (some ⟨k, 0, none⟩), .string ⟨m.toArray⟩] w fun e w' => But k w w' ∧ Tryz.WayRes k sc c9 c10 c11 c12 (readOther hostTell sc m) e w' ∧ (∀ n, readOther hostTell sc m = .error n → w'.heap[k]? = w.heap[k]?) := by
  have hkz : k < w.heap.size := (Array.getElem?_eq_some_iff.1 hk).1
  have HCP : Hid (Calls Tryz.prog 277 #[.string ⟨m.toArray⟩, .string ⟨#[47, 47]⟩] w fun e w' => e = .returned (.tuple #[.string ⟨(Lib.trimPrefix m [47, 47]).toArray⟩, .bool (Lib.hasPrefix m [47, 47])]) ∧ w' = w) := Tryz.strings_CutPrefix ⟨m.toArray⟩ ⟨#[47, 47]⟩ w
  cases h2 : List.isPrefixOf [47, 47] m with
  | true =>
    have HE : Hid (readOther hostTell sc m = fromAuth hostTell sc (m.drop 2)) := by show _ = _; unfold readOther; rw [if_pos h2]
    have ht : Lib.trimPrefix m [47, 47] = m.drop 2 := by unfold Lib.trimPrefix; rw [two_pre, h2]; rfl
    rw [ht, two_pre, h2] at HCP
    have HRF : Hid (Calls Tryz.prog 246 #[.pointer (some ⟨k, 0, none⟩), .string ⟨(m.drop 2).toArray⟩] w fun e w' => But k w w' ∧ Tryz.FromRes k sc c9 c10 c11 c12 w.heap.size (fromAuth hostTell sc (m.drop 2)) e w' ∧ (∀ n, fromAuth hostTell sc (m.drop 2) = .error n → w'.heap[k]? = w.heap[k]?)) := Tryz.readFromAuthority_any k sc (m.drop 2) _ _ _ _ _ c6 c7 c8 c9 c10 c11 c12 w (by rw [List.length_drop]; omega) hk hkg henv
    clear h2 ht hk henv
    go_enter Tryz.func248, Tryz.ntmps248
    go_wp2_with fail
    refine HCP.out.mono ?_
    rintro e w1 ⟨rfl, hw0⟩
    have hw0 := hw0.symm
    subst hw0
    go_wp2_with fail
    refine HRF.out.mono ?_
    rintro e w2 ⟨hb, hr, hx⟩
    obtain ⟨ev, rfl⟩ := Tryz.fromRes_ret hr
    have HX : Hid (∀ n, fromAuth hostTell sc (m.drop 2) = .error n → w2.heap[k]? = w.heap[k]?) := hx
    have HF : Hid (Tryz.WayRes k sc c9 c10 c11 c12 (fromAuth hostTell sc (m.drop 2)) (.returned ev) w2) := Tryz.way_of_from hr
    have HB : Hid (But k w w2) := hb
    clear hr hb hx
    go_wp2
    go_ret
    rw [HE.out]
    exact ⟨HB.out, HF.out, HX.out⟩
  | false =>
    rw [two_pre, h2] at HCP
    have HHP : Hid (Calls Tryz.prog 82 #[.string ⟨m.toArray⟩, .string ⟨#[47]⟩] w fun e w' => e = .returned (.bool (Lib.hasPrefix m [47])) ∧ w' = w) := Tryz.strings_HasPrefix ⟨m.toArray⟩ ⟨#[47]⟩ w
    by_cases h1 : m.head? = some 47
    · have hp1 : Lib.hasPrefix m [47] = true := by
        cases m with
        | nil => cases h1
        | cons c r => simp at h1; subst h1; rfl
      have HE : Hid (readOther hostTell sc m = .ok (noAuth, readWay sc [] m)) := by show _ = _; unfold readOther; rw [if_neg (by simp [h2]), if_pos h1]
      have HRP : Hid (Calls Tryz.prog 163 #[.pointer (some ⟨k, 0, none⟩), .slice none 0 0, .string ⟨m.toArray⟩] w fun e w' => e = .returned (.tuple #[]) ∧ But k w w' ∧ ∃ v, w'.heap[k]? = some (.cells #[.string ⟨sc.toArray⟩, .string ⟨#[]⟩, .string ⟨#[]⟩, .bool false, .string ⟨#[]⟩, .int .i64 (-1), .bool false, .string ⟨#[]⟩, v, c9, c10, c11, c12] 77 (0, 0)) ∧ w'.ownsRow w.heap.size 9 1 v (readSegs sc [] m).length (strs (readSegs sc [] m))) := Tryz.readPath_any k sc m _ _ _ _ _ c6 c7 c8 c9 c10 c11 c12 none 0 [] w hm (by simp) (by simp) hk (by simp) henv
      rw [hp1] at HHP
      clear h1 h2 hp1 hk henv
      go_enter Tryz.func248, Tryz.ntmps248
      go_wp2_with fail
      refine HCP.out.mono ?_
      rintro e w1 ⟨rfl, hw0⟩
      have hw0 := hw0.symm
      subst hw0
      go_wp2_with fail
      refine HHP.out.mono ?_
      rintro e w1 ⟨rfl, hw1⟩
      have hw1 := hw1.symm
      subst hw1
      go_wp2_with fail
      refine HRP.out.mono ?_
      rintro e w3 ⟨rfl, hb3, v, h3, ho3⟩
      have HF : Hid (Tryz.WayRes k sc c9 c10 c11 c12 (.ok (noAuth, readWay sc [] m)) (.returned .nilIface) w3) := ⟨rfl, v, h3, own_seg ho3⟩
      have HB3 : Hid (But k w w3) := hb3
      clear hb3 h3 ho3
      go_wp2
      go_ret
      rw [HE.out]
      exact ⟨HB3.out, HF.out, fun n h => by cases h⟩
    · have hp1 : Lib.hasPrefix m [47] = false := by
        cases m with
        | nil => rfl
        | cons c r =>
          simp at h1
          unfold Lib.hasPrefix
          simp [List.isPrefixOf]
          exact fun h => h1 h.symm
      have HE : Hid (readOther hostTell sc m = .ok (noAuth, ⟨true, escOpaque m, []⟩)) := by show _ = _; unfold readOther; rw [if_neg (by simp [h2]), if_neg h1]
      have HEO : Hid (Calls Tryz.prog 283 #[.string ⟨m.toArray⟩] w fun e w' => e = .returned (.string ⟨(escOpaque m).toArray⟩) ∧ Below w.heap.size w w') := Tryz.escapeOpaque_any m w hm henv.env
      have HK : Hid (∀ w1, Below w.heap.size w w1 → w1.heap[k]? = some (.cells #[.string ⟨sc.toArray⟩, .string ⟨#[]⟩, .string ⟨#[]⟩, .bool false, .string ⟨#[]⟩, .int .i64 (-1), c6, c7, c8, c9, c10, c11, c12] 77 (0, 0))) := fun w1 b1 => (b1.block k hkz).trans hk
      rw [hp1] at HHP
      generalize escOpaque m = eo at *
      clear h1 h2 hp1 hk henv
      go_enter Tryz.func248, Tryz.ntmps248
      go_wp2_with fail
      refine HCP.out.mono ?_
      rintro e w1 ⟨rfl, hw0⟩
      have hw0 := hw0.symm
      subst hw0
      go_wp2_with fail
      refine HHP.out.mono ?_
      rintro e w1 ⟨rfl, hw1⟩
      have hw1 := hw1.symm
      subst hw1
      go_wp2_with fail
      refine HEO.out.mono ?_
      rintro e w2 ⟨rfl, b2⟩
      have hk2 := HK.out w2 b2
      have d6 : w2.cell? ⟨k, 6, none⟩ = some c6 := cell_heap hk2 6
      have d7 : w2.cell? ⟨k, 7, none⟩ = some c7 := cell_heap hk2 7
      have d8 : w2.cell? ⟨k, 8, none⟩ = some c8 := cell_heap hk2 8
      have f6 := frozen_heap hk2 6
      have f7 := frozen_heap hk2 7
      have f8 := frozen_heap hk2 8
      have g6 := heap_setCell_same w2 k 6 _ 77 (.bool true) hk2
      have g7 := heap_setCell_same _ k 7 _ 77 (.string ⟨eo.toArray⟩) g6
      have g8 := heap_setCell_same _ k 8 _ 77 (.slice none 0 0) g7
      have HBU : Hid _ := (((But.of_below (k := k) b2).setCell 6 (.bool true)).setCell 7 (.string ⟨eo.toArray⟩)).setCell 8 (.slice none 0 0)
      have HF : Hid (Tryz.WayRes k sc c9 c10 c11 c12 (.ok (noAuth, ⟨true, eo, []⟩)) (.returned .nilIface) _) := ⟨rfl, .slice none 0 0, g8, ⟨none, 0, rfl, Nat.le_refl _, Nat.zero_le _, fun h => absurd rfl h⟩, fun g n c h => by cases h⟩
      clear hk2 g6 g7 g8 b2
      go_wp2
      go_ret
      rw [HE.out]
      exact ⟨HBU.out, HF.out, fun n h => by cases h⟩
end Go.Proofs
