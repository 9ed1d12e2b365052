/-
  What Beside of package moorkeep answers.
-/
import Derived.Test.YtkcnageeamappaaGreatDoorJKEnv
import Derived.Test.YtkcnageeamappaaGreatDoorJLaidK
import Derived.Test.YtkcnageeamappaaGreatDoorJKDrives
import Derived.Deep.RegionHeld3
namespace Go.Proofs
open Go.RowKit Go.Moor

theorem five_at (k : Nat) (h : (k : Int) < 5) : ∃ s, five[k]? = some s ∧ s ∈ five ∧ s.length ≤ 5 := by
  have hk : k < five.length := by show k < 5; omega
  exact ⟨five[k], List.getElem?_eq_getElem hk, List.getElem_mem hk, five_len _ (List.getElem_mem hk)⟩
theorem own_leaf {w : World} {B g cap : Nat} {ls : List Bs} {x : Bs} (h : w.ownsRow B 9 1 (.slice (some ⟨g, 0, none⟩) (ls.length + 1) cap) (ls.length + 1) (strs ls ++ [.string ⟨x.toArray⟩])) : w.ownsRow B 9 1 (.slice (some ⟨g, 0, none⟩) (ls ++ [x]).length cap) (ls ++ [x]).length (strs (ls ++ [x])) := by
  rw [List.length_append, strs_app]
  exact h

set_option maxHeartbeats 16000000 in
set_option maxRecDepth 8000 in
theorem Tryz.Beside_any (sp : Option Go.Addr) (cap : Nat) (xs : List Int) (u : Int) (dp : Option Go.Addr) (dcap : Nat) (ys : List Int) (c : Int) (w : World) (hu0 : -(2 ^ 63) ≤ u) (hu1 : u < 2 ^ 63) (hc0 : -(2 ^ 63) ≤ c) (hc1 : c < 2 ^ 63)
    (hx : ∀ x ∈ xs, -9223372036854775808 ≤ x ∧ x ≤ 9223372036854775807) (hy : ∀ x ∈ ys, -9223372036854775808 ≤ x ∧ x ≤ 9223372036854775807) (hrow : IntRow w sp xs) (hdow : IntRow w dp ys) (henv : Tryz.Env2 w) (hsc : TxtRow 0 five w) :
    Calls Tryz.prog 8 #[.slice sp xs.length cap, .int .i64 u, .slice dp ys.length dcap, .int .i64 c] w fun e w' => e = .returned (.bool true) ∧ Below w.heap.size w w' := by
  have HPK : Hid (∀ w1, Calls Tryz.prog 14 #[.int .i64 c, .int .i64 5] w1 fun e w' => e = .returned (.int .i64 (pickN c 5)) ∧ w' = w1) := fun w1 => Tryz.pick_fun c 5 w1 hc0 hc1 (by omega) (by omega)
  have HPU : Hid (∀ w1, Calls Tryz.prog 14 #[.int .i64 u, .int .i64 8] w1 fun e w' => e = .returned (.int .i64 (pickN u 8)) ∧ w' = w1) := fun w1 => Tryz.pick_fun u 8 w1 hu0 hu1 (by omega) (by omega)
  have hk := pickN_lt c 5 (by omega)
  have hn := pickN_lt u 8 (by omega)
  generalize pickN c 5 = k at *
  generalize pickN u 8 = n at *
  have hn7 : n ≤ 7 := by omega
  have hqq := tdiv_range c hc0 hc1 5 (by omega)
  have hq0 : -(2 ^ 63) ≤ c.tdiv 5 := by omega
  have hq1 : c.tdiv 5 < 2 ^ 63 := by omega
  have HWD : Hid (∀ w1, Calls Tryz.prog 23 #[.int .i64 (c.tdiv 5)] w1 fun e w' => ∃ l : Bs, wordB l ∧ l.length ≤ 4 ∧ e = .returned (.string ⟨l.toArray⟩) ∧ Below w1.heap.size w1 w') := fun w1 => Tryz.word_any (c.tdiv 5) w1 hq0 hq1
  have HW6 : Hid (∀ w1, Below w.heap.size w w1 → Calls Tryz.prog 24 #[.slice sp xs.length cap, .int .i64 6] w1 fun e w' => ∃ (v : Value) (ls : List Bs), e = .returned v ∧ w'.ownsRow w1.heap.size 9 1 v ls.length (strs ls) ∧ ls.length = min xs.length 6 ∧ (∀ p ∈ ls, wordB p ∧ p.length ≤ 4) ∧ Below w1.heap.size w1 w') := fun w1 h1 => Tryz.words_any sp cap xs 6 w1 (by omega) hx (hrow.below h1)
  have HW4 : Hid (∀ w1, Below w.heap.size w w1 → Calls Tryz.prog 24 #[.slice dp ys.length dcap, .int .i64 4] w1 fun e w' => ∃ (v : Value) (ls : List Bs), e = .returned v ∧ w'.ownsRow w1.heap.size 9 1 v ls.length (strs ls) ∧ ls.length = min ys.length 4 ∧ (∀ p ∈ ls, wordB p ∧ p.length ≤ 4) ∧ Below w1.heap.size w1 w') := fun w1 h1 => Tryz.words_any dp dcap ys 4 w1 (by omega) hy (hdow.below h1)
  have HE : Hid (∀ w1, Below w.heap.size w w1 → Tryz.Env2 w1) := fun w1 h1 => henv.below h1
  have hgz : 0 < w.heap.size := by have := henv.env.size; omega
  have HSC : Hid (∀ w1, Below w.heap.size w w1 → TxtRow 0 five w1) := fun w1 h1 => hsc.below hgz h1
  obtain ⟨i0, hi, hz0, hz1, hz2⟩ := info_parts Tryz.infoStr
  obtain ⟨s, hks, hsm, hsl⟩ := five_at k hk
  have HSM : Hid (s ∈ five) := hsm
  have HKS : Hid (five[k]? = some s) := hks
  clear hrow hdow henv hx hy hu0 hu1 hc0 hc1 hsc hqq hgz hks hsm
  go_enter Tryz.func8, Tryz.ntmps8
  go_wp2_with fail
  refine (HPK.out w).mono ?_
  rintro e W0 ⟨rfl, hw0⟩
  have hw0 := hw0.symm
  subst hw0
  go_wp2_with fail
  refine (HWD.out w).mono ?_
  rintro e w1 ⟨p, hp1, hp2, rfl, b1⟩
  have HP : Hid (wordB p) := hp1
  have HB1 : Hid (Below w.heap.size w w1) := b1
  have HR1 : Hid (∃ (a : Go.Addr) (cap : Nat), w1.cell? ⟨0, 0, none⟩ = some (.slice (some a) 5 cap) ∧ 5 ≤ cap ∧ w1.cell? (a.add k) = some (.string ⟨s.toArray⟩)) := by
    obtain ⟨a, cap, h1, h2, h3, h4⟩ := HSC.out w1 b1
    exact ⟨a, cap, h1, h2, h4 k s HKS.out⟩
  obtain ⟨a1, capS, e1, e2, e3⟩ := HR1.out
  have zp : (⟨p.toArray⟩ : ByteArray).size = p.length := size_mk p
  have zs : (⟨s.toArray⟩ : ByteArray).size = s.length := size_mk s
  have z8 : (⟨#[46, 101, 120, 97, 109, 112, 108, 101]⟩ : ByteArray).size = 8 := rfl
  have z3 : (⟨#[58, 47, 47]⟩ : ByteArray).size = 3 := rfl
  have g0 : ∀ W : World, (Op.stringOp .add (⟨p.toArray⟩) ⟨#[46, 101, 120, 97, 109, 112, 108, 101]⟩).run Tryz.prog W = .ok (.string (⟨p.toArray⟩ ++ ⟨#[46, 101, 120, 97, 109, 112, 108, 101]⟩)) W := fun W => run_string_add_sum W _ _ (by (try simp only [ByteArray.size_append]); omega)
  have g1 : ∀ W : World, (Op.stringOp .add (⟨s.toArray⟩) ⟨#[58, 47, 47]⟩).run Tryz.prog W = .ok (.string (⟨s.toArray⟩ ++ ⟨#[58, 47, 47]⟩)) W := fun W => run_string_add_sum W _ _ (by (try simp only [ByteArray.size_append]); omega)
  have g2 : ∀ W : World, (Op.stringOp .add (⟨s.toArray⟩ ++ ⟨#[58, 47, 47]⟩) (⟨p.toArray⟩ ++ ⟨#[46, 101, 120, 97, 109, 112, 108, 101]⟩)).run Tryz.prog W = .ok (.string (⟨s.toArray⟩ ++ ⟨#[58, 47, 47]⟩ ++ (⟨p.toArray⟩ ++ ⟨#[46, 101, 120, 97, 109, 112, 108, 101]⟩))) W := fun W => run_string_add_sum W _ _ (by (try simp only [ByteArray.size_append]); omega)
  obtain ⟨h, hh⟩ : ∃ h : Bs, h = p ++ 46 :: tExample := ⟨_, rfl⟩
  obtain ⟨fb, hfb⟩ : ∃ fb : ByteArray, fb = ⟨(s ++ sep3 ++ h).toArray⟩ := ⟨_, rfl⟩
  have hfr : (⟨s.toArray⟩ ++ ⟨#[58, 47, 47]⟩ ++ (⟨p.toArray⟩ ++ ⟨#[46, 101, 120, 97, 109, 112, 108, 101]⟩) : ByteArray) = fb := by
    have q1 : (⟨p.toArray⟩ : ByteArray) ++ ⟨#[46, 101, 120, 97, 109, 112, 108, 101]⟩ = ⟨h.toArray⟩ := by rw [hh]; exact app_mk p (46 :: tExample)
    have q2 : (⟨s.toArray⟩ : ByteArray) ++ ⟨#[58, 47, 47]⟩ = ⟨(s ++ sep3).toArray⟩ := app_mk s sep3
    rw [q1, q2, app_mk, hfb]
  have hhl : h.length ≤ 12 := by rw [hh]; simp [tExample]; omega
  have hfz : fb.size ≤ 20 := by rw [hfb, size_mk]; simp [sep3]; omega
  have HFB : Hid (fb = ⟨(s ++ sep3 ++ h).toArray⟩) := hfb
  have HH : Hid (HostOk hostTell h) := by show HostOk hostTell h; rw [hh]; exact hostOk_example p HP.out
  clear hp1 b1 HR1 hfb hh
  go_wp2_with fail
  try rw [hfr]
  clear hfr g0 g1 g2 e1 e2 e3 zp z8
  refine (HW6.out w1 HB1.out).mono ?_
  rintro e w2 ⟨v, ls, rfl, hown, hlen, hls, hb2⟩
  obtain ⟨sp2, cap2, hvf, hnc, hcm, hf2⟩ := own_shape hown
  subst hvf
  have HL : Hid (∀ p ∈ ls, wordB p ∧ p.length ≤ 4) := hls
  have hl6 : ls.length ≤ 6 := by omega
  have HB2 : Hid (Below w.heap.size w w2) := HB1.out.trans (hb2.mono HB1.out.size)
  have hk1 := HB1.out.size
  have hk2 := hb2.size
  unfold maxLen at hcm
  clear hf2 hls hlen hb2
  have HO4 := hown.alloc (.cells #[.string ⟨#[108, 101, 97, 102]⟩] 9)
  go_wp2_with (at_builtin; refine wpList_append_lies _ rfl _ _ 28 rfl w1.heap.size 9 i0 (.string ⟨#[]⟩) 1 16 Tryz.underlying28 hi hz0 hz1 hz2 rfl (by decide) _ _ _ rfl HO4 ⟨w2.heap.size, 0, none⟩ 1 1 [.string ⟨#[108, 101, 97, 102]⟩] rfl rfl ?c1 ?c2 (by decide) ?c3 ?c4 ?c5 _ rfl ?_)
  case c1 =>
    intro j u hj
    match j, hj with
    | 0, hj => simp at hj; subst hj; exact World.cell?_alloc_new w2 #[.string ⟨#[108, 101, 97, 102]⟩] 9 0
  case c2 => intro u hu; simp at hu; subst hu; rfl
  case c3 => unfold maxLen; omega
  case c4 => omega
  case c5 => simp; omega
  intro g1 cap3 w3 hown' hgrow hat hglt
  have HB3 : Hid (Below w.heap.size w w3) := (HB2.out.alloc HB2.out.size _).grown hgrow (by simp; omega) (fun k hk => Nat.le_trans hk1 (HO4.lt k hk).1)
  have HO5 : Hid (w3.ownsRow w1.heap.size 9 1 (.slice (some ⟨g1, 0, none⟩) (ls ++ [wLeaf]).length cap3) (ls ++ [wLeaf]).length (strs (ls ++ [wLeaf]))) := own_leaf (x := wLeaf) hown'
  have hle : (ls ++ [wLeaf]).length = ls.length + 1 := by simp
  have HS1 : Hid (∀ W1, Below w3.heap.size w3 W1 → SegRow0 W1 (.slice (some ⟨g1, 0, none⟩) (ls.length + 1) cap3) (ls ++ [wLeaf])) := by
    intro W1 h1
    have := (own_seg (own_below HO5.out h1)).1
    rwa [hle] at this
  have hcc : (ls ++ [wLeaf]).length ≤ cap3 ∧ cap3 ≤ maxLen := by
    obtain ⟨_, _, hv3, h1, h2, _⟩ := own_shape HO5.out
    injection hv3 with _ _ hv3
    subst hv3
    exact ⟨h1, h2⟩
  obtain ⟨hc31, hc32⟩ := hcc
  rw [hle] at hc31
  unfold maxLen at hc32
  have HPA : Hid (∀ W1, Below w3.heap.size w3 W1 → Calls Tryz.prog 25 #[.slice (some ⟨g1, 0, none⟩) (ls.length + 1) cap3] W1 fun e w' => e = .returned (.string ⟨(tellSegs (ls ++ [wLeaf])).toArray⟩) ∧ w' = W1) := fun W1 h1 => Tryz.path_any (ls ++ [wLeaf]) _ W1 (HS1.out W1 h1) (by rw [hle]; omega) (fun x hx => by
    rcases List.mem_append.1 hx with hx | hx
    · have := (HL.out x hx).2; omega
    · simp at hx; subst hx; decide)
  have hpl : (tellSegs (ls ++ [wLeaf])).length ≤ 35 := by
    have := tellSegs_small 4 ls (fun p hp => (HL.out p hp).2)
    rw [tellSegs_app, List.length_append]
    show _ + 5 ≤ 35
    omega
  rw [← size_mk] at hpl
  obtain ⟨pl, hplb⟩ : ∃ pl : ByteArray, pl = ⟨(tellSegs (ls ++ [wLeaf])).toArray⟩ := ⟨_, rfl⟩
  rw [← hplb] at HPA hpl
  have HPLB : Hid (pl = ⟨(tellSegs (ls ++ [wLeaf])).toArray⟩) := hplb
  have hk3 := HB3.out.size
  clear hown' hgrow HO4 hat hglt hown hnc hcm hplb hle
  go_wp2_with fail
  refine (HPA.out w3 (Below.refl _ _)).mono ?_
  rintro e W0 ⟨rfl, hw0⟩
  have hw0 := hw0.symm
  subst hw0
  have z4 : (⟨#[63, 113, 35, 102]⟩ : ByteArray).size = 4 := rfl
  have g0 : ∀ W : World, (Op.stringOp .add (fb) pl).run Tryz.prog W = .ok (.string (fb ++ pl)) W := fun W => run_string_add_sum W _ _ (by (try simp only [ByteArray.size_append]); omega)
  have g1 : ∀ W : World, (Op.stringOp .add (fb ++ pl) ⟨#[63, 113, 35, 102]⟩).run Tryz.prog W = .ok (.string (fb ++ pl ++ ⟨#[63, 113, 35, 102]⟩)) W := fun W => run_string_add_sum W _ _ (by (try simp only [ByteArray.size_append]); omega)
  obtain ⟨bb, hbb⟩ : ∃ bb : ByteArray, bb = fb ++ pl ++ ⟨#[63, 113, 35, 102]⟩ := ⟨_, rfl⟩
  have HBB : Hid (bb = ⟨(besideBase s h ls).toArray⟩) := by
    show _ = _
    rw [hbb, HFB.out, HPLB.out, app_mk]
    exact app_mk _ tQf
  have HBZ : Hid (fb ++ pl ++ ⟨#[63, 113, 35, 102]⟩ = bb) := hbb.symm
  clear hbb
  go_wp2_with fail
  rw [HBZ.out]
  clear g0 g1
  refine (HPU.out w3).mono ?_
  rintro e W0 ⟨rfl, hw0⟩
  have hw0 := hw0.symm
  subst hw0
  go_wp2_with fail
  refine (HW4.out w3 HB3.out).mono ?_
  rintro e w4 ⟨v4, ds, rfl, hown, hlen, hls, hb4⟩
  obtain ⟨sp4, cap4, hvf, hnc, hcm, hf2⟩ := own_shape hown
  subst hvf
  have HD : Hid (∀ p ∈ ds, wordB p ∧ p.length ≤ 4) := hls
  have hd4 : ds.length ≤ 4 := by omega
  have HB4 : Hid (Below w3.heap.size w3 w4) := hb4
  have hk4 := hb4.size
  unfold maxLen at hcm
  clear hf2 hls hlen hb4
  have HO4 := hown.alloc (.cells #[.string ⟨#[101, 110, 100]⟩] 9)
  go_wp2_with (at_builtin; refine wpList_append_lies _ rfl _ _ 28 rfl w3.heap.size 9 i0 (.string ⟨#[]⟩) 1 16 Tryz.underlying28 hi hz0 hz1 hz2 rfl (by decide) _ _ _ rfl HO4 ⟨w4.heap.size, 0, none⟩ 1 1 [.string ⟨#[101, 110, 100]⟩] rfl rfl ?c1 ?c2 (by decide) ?c3 ?c4 ?c5 _ rfl ?_)
  case c1 =>
    intro j u hj
    match j, hj with
    | 0, hj => simp at hj; subst hj; exact World.cell?_alloc_new w4 #[.string ⟨#[101, 110, 100]⟩] 9 0
  case c2 => intro u hu; simp at hu; subst hu; rfl
  case c3 => unfold maxLen; omega
  case c4 => omega
  case c5 => simp; omega
  intro g2 cap5 w5 hown' hgrow hat hglt
  have HB5 : Hid (Below w3.heap.size w3 w5) := (HB4.out.alloc HB4.out.size _).grown hgrow (by simp; omega) (fun k hk => (HO4.lt k hk).1)
  have HO6 : Hid (w5.ownsRow w3.heap.size 9 1 (.slice (some ⟨g2, 0, none⟩) (ds ++ [wEnd]).length cap5) (ds ++ [wEnd]).length (strs (ds ++ [wEnd]))) := own_leaf (x := wEnd) hown'
  have hld : (ds ++ [wEnd]).length = ds.length + 1 := by simp
  have HB6 : Hid (∀ W1, Below w5.heap.size w5 W1 → Below w.heap.size w W1) := fun W1 h1 => (HB3.out.trans (HB5.out.mono hk3)).trans (h1.mono (Nat.le_trans hk3 HB5.out.size))
  have HS2 : Hid (∀ W1, Below w5.heap.size w5 W1 → SegRow0 W1 (.slice (some ⟨g2, 0, none⟩) (ds.length + 1) cap5) (ds ++ [wEnd])) := by
    intro W1 h1
    have := (own_seg (own_below HO6.out h1)).1
    rwa [hld] at this
  have HS3 : Hid (∀ W1, Below w5.heap.size w5 W1 → SegRow0 W1 (.slice (some ⟨g1, 0, none⟩) (ls ++ [wLeaf]).length cap3) (ls ++ [wLeaf])) := by
    intro W1 h1
    have := HS1.out W1 (HB5.out.trans (h1.mono HB5.out.size))
    rwa [show (ls ++ [wLeaf]).length = ls.length + 1 by simp]
  have HBI : Hid (BesideIs s h ls ds) := ⟨HSM.out, HH.out, by omega, HL.out, hl6, HD.out, hd4⟩
  have hT : ∀ (t r : Bs) (W1 : World), Below w5.heap.size w5 W1 → parse hostTell t (besideBase s h ls) = .ok r → Calls Tryz.prog 26 #[.string ⟨t.toArray⟩, .string bb, .string ⟨r.toArray⟩] W1 fun e w' => e = .returned (.bool true) ∧ Below w5.heap.size w5 w' := by
    intro t r W1 h1 hp
    have hlen := parse_small hp
    rw [HBB.out]
    refine (Tryz.told_any t _ r W1 (by omega) (by omega) (HE.out W1 (HB6.out W1 h1)) hp).mono ?_
    rintro e w' ⟨rfl, hb⟩
    exact ⟨rfl, h1.trans (hb.mono h1.size)⟩
  have hfb2 : fb = ⟨s.toArray⟩ ++ ⟨sep3.toArray⟩ ++ ⟨h.toArray⟩ := by rw [HFB.out]; simp only [← app_mk]
  have HT1 : Hid (∀ W1, Below w5.heap.size w5 W1 → Calls Tryz.prog 26 #[.string (⟨(upsTxt n).toArray⟩ ++ ⟨((tellSegs (ds ++ [wEnd])).drop 1).toArray⟩), .string bb, .string (fb ++ ⟨(tellSegs (ls.take (ls.length - n))).toArray⟩ ++ ⟨(tellSegs (ds ++ [wEnd])).toArray⟩)] W1 fun e w' => e = .returned (.bool true) ∧ Below w5.heap.size w5 w') := by
    intro W1 h1
    have k1 := hT _ _ W1 h1 (bes1 HBI.out n hn7)
    simp only [← app_mk] at k1
    rw [hfb2]
    exact k1
  have HT2 : Hid (∀ W1, Below w5.heap.size w5 W1 → Calls Tryz.prog 26 #[.string (⟨(tellSegs (ds ++ [wEnd])).toArray⟩ ++ ⟨#[47, 46]⟩), .string bb, .string (fb ++ ⟨(tellSegs (ds ++ [wEnd])).toArray⟩ ++ ⟨#[47]⟩)] W1 fun e w' => e = .returned (.bool true) ∧ Below w5.heap.size w5 w') := by
    intro W1 h1
    have k1 := hT _ _ W1 h1 (bes2 HBI.out)
    simp only [← app_mk] at k1
    rw [hfb2]
    exact k1
  have HT3 : Hid (∀ W1, Below w5.heap.size w5 W1 → Calls Tryz.prog 26 #[.string (⟨#[47, 47, 111, 116, 104, 101, 114]⟩ ++ ⟨(tellSegs (ds ++ [wEnd])).toArray⟩), .string bb, .string (⟨s.toArray⟩ ++ ⟨#[58, 47, 47, 111, 116, 104, 101, 114]⟩ ++ ⟨(tellSegs (ds ++ [wEnd])).toArray⟩)] W1 fun e w' => e = .returned (.bool true) ∧ Below w5.heap.size w5 w') := by
    intro W1 h1
    have k1 := hT _ _ W1 h1 (bes3 HBI.out)
    simp only [← app_mk] at k1
    exact k1
  have HT4 : Hid (∀ W1, Below w5.heap.size w5 W1 → Calls Tryz.prog 26 #[.string (⟨#[63, 110, 101, 119, 32, 120]⟩), .string bb, .string (fb ++ pl ++ ⟨#[63, 110, 101, 119, 37, 50, 48, 120]⟩)] W1 fun e w' => e = .returned (.bool true) ∧ Below w5.heap.size w5 w') := by
    intro W1 h1
    have k1 := hT _ _ W1 h1 (bes4 HBI.out)
    simp only [← app_mk] at k1
    rw [hfb2, HPLB.out]
    exact k1
  have HT5 : Hid (∀ W1, Below w5.heap.size w5 W1 → Calls Tryz.prog 26 #[.string (⟨#[35, 110, 101, 119, 32, 120]⟩), .string bb, .string (fb ++ pl ++ ⟨#[63, 113, 35, 110, 101, 119, 37, 50, 48, 120]⟩)] W1 fun e w' => e = .returned (.bool true) ∧ Below w5.heap.size w5 w') := by
    intro W1 h1
    have k1 := hT _ _ W1 h1 (bes5 HBI.out)
    simp only [← app_mk] at k1
    rw [hfb2, HPLB.out]
    exact k1
  have HT6 : Hid (∀ W1, Below w5.heap.size w5 W1 → Calls Tryz.prog 26 #[.string (⟨#[]⟩), .string bb, .string (fb ++ pl ++ ⟨#[63, 113]⟩)] W1 fun e w' => e = .returned (.bool true) ∧ Below w5.heap.size w5 w') := by
    intro W1 h1
    have k1 := hT _ _ W1 h1 (bes6 HBI.out)
    simp only [← app_mk] at k1
    rw [hfb2, HPLB.out]
    exact k1
  have HT7 : Hid (∀ W1, Below w5.heap.size w5 W1 → Calls Tryz.prog 26 #[.string (⟨#[46, 46]⟩), .string bb, .string (fb ++ ⟨(tellSegs ((ls ++ [wLeaf]).take (ls.length - 1))).toArray⟩ ++ ⟨#[47]⟩)] W1 fun e w' => e = .returned (.bool true) ∧ Below w5.heap.size w5 w') := by
    intro W1 h1
    have k1 := hT _ _ W1 h1 (bes7 HBI.out)
    simp only [← app_mk] at k1
    rw [hfb2]
    exact k1
  have HT8 : Hid (∀ W1, Below w5.heap.size w5 W1 → Calls Tryz.prog 26 #[.string (⟨s.toArray⟩ ++ ⟨#[58]⟩ ++ ⟨(tellSegs (ds ++ [wEnd])).toArray⟩), .string bb, .string (fb ++ ⟨(tellSegs (ds ++ [wEnd])).toArray⟩)] W1 fun e w' => e = .returned (.bool true) ∧ Below w5.heap.size w5 w') := by
    intro W1 h1
    have k1 := hT _ _ W1 h1 (bes8 HBI.out)
    simp only [← app_mk] at k1
    rw [hfb2]
    exact k1
  have HPA5 : Hid (∀ W1, Below w5.heap.size w5 W1 → Calls Tryz.prog 25 #[.slice (some ⟨g1, 0, none⟩) (ls.length + 1) cap3] W1 fun e w' => e = .returned (.string pl) ∧ w' = W1) := fun W1 h1 => HPA.out W1 (HB5.out.trans (h1.mono HB5.out.size))
  have HPD : Hid (∀ W1, Below w5.heap.size w5 W1 → Calls Tryz.prog 25 #[.slice (some ⟨g2, 0, none⟩) (ds.length + 1) cap5] W1 fun e w' => e = .returned (.string ⟨(tellSegs (ds ++ [wEnd])).toArray⟩) ∧ w' = W1) := fun W1 h1 => Tryz.path_any (ds ++ [wEnd]) _ W1 (HS2.out W1 h1) (by rw [hld]; omega) (fun x hx => by
    rcases List.mem_append.1 hx with hx | hx
    · have := (HD.out x hx).2; omega
    · simp at hx; subst hx; decide)
  have hwl : ∀ x ∈ ls ++ [wLeaf], x.length ≤ 4 := fun x hx => by
    rcases List.mem_append.1 hx with hx | hx
    · exact (HL.out x hx).2
    · simp at hx; subst hx; decide
  have htk : ∀ k, k ≤ ls.length → (ls ++ [wLeaf]).take k = ls.take k := fun k hk => List.take_append_of_le_length hk
  have HPT : Hid (∀ k W1, Below w5.heap.size w5 W1 → k ≤ ls.length → Calls Tryz.prog 25 #[.slice (some ⟨g1, 0, none⟩) k cap3] W1 fun e w' => e = .returned (.string ⟨(tellSegs ((ls ++ [wLeaf]).take k)).toArray⟩) ∧ w' = W1) := fun k W1 h1 hk => Tryz.path_any ((ls ++ [wLeaf]).take k) _ W1 (segRow0_take (HS3.out W1 h1) k (by simp; omega)) (by rw [List.length_take]; simp; omega) (fun x hx => by have := hwl x (List.mem_of_mem_take hx); omega)
  have HPL2 : Hid (∀ W1, Below w5.heap.size w5 W1 → Calls Tryz.prog 25 #[.slice (some ⟨g1, 0, none⟩) (max 0 ((ls.length : Int) + 1 - 2)).toNat cap3] W1 fun e w' => e = .returned (.string ⟨(tellSegs ((ls ++ [wLeaf]).take (ls.length - 1))).toArray⟩) ∧ w' = W1) := by
    intro W1 h1
    rw [show (max 0 ((ls.length : Int) + 1 - 2)).toNat = ls.length - 1 by omega]
    exact HPT.out _ W1 h1 (by omega)
  have HPLB2 : Hid (∀ W1, Below w5.heap.size w5 W1 → Calls Tryz.prog 25 #[.slice (some ⟨g1, 0, none⟩) (ls.length - n) cap3] W1 fun e w' => e = .returned (.string ⟨(tellSegs (ls.take (ls.length - n))).toArray⟩) ∧ w' = W1) := by
    intro W1 h1
    have := HPT.out (ls.length - n) W1 h1 (by omega)
    rwa [htk _ (by omega)] at this
  have HPN : Hid (∀ W1, ls.length ≤ n → Calls Tryz.prog 25 #[.slice none 0 0] W1 fun e w' => e = .returned (.string ⟨(tellSegs (ls.take (ls.length - n))).toArray⟩) ∧ w' = W1) := by
    intro W1 h1
    rw [show ls.take (ls.length - n) = [] by rw [show ls.length - n = 0 by omega]; rfl]
    exact Tryz.path_any [] _ W1 ⟨none, 0, rfl, Nat.le_refl _, by decide, fun h => absurd rfl h⟩ (by decide) (by simp)
  have y1 : (tellSegs (ds ++ [wEnd])).length ≤ 24 := end_len HBI.out
  have y2 : (tellSegs (ls.take (ls.length - n))).length ≤ 30 := by
    have := tellSegs_small 4 (ls.take (ls.length - n)) (fun p hp => (HL.out p (List.mem_of_mem_take hp)).2)
    rw [List.length_take] at this
    omega
  have y3 : (tellSegs ((ls ++ [wLeaf]).take (ls.length - 1))).length ≤ 30 := by
    have := tellSegs_small 4 ((ls ++ [wLeaf]).take (ls.length - 1)) (fun p hp => hwl p (List.mem_of_mem_take hp))
    rw [List.length_take] at this
    omega
  have y4 : ((tellSegs (ds ++ [wEnd])).drop 1).length ≤ 24 := by rw [List.length_drop]; omega
  have y5 : (upsTxt n).length ≤ 63 := by have := upTxt_len n; omega
  have y6 : 1 ≤ (tellSegs (ds ++ [wEnd])).length := by rw [tellSegs_app, List.length_append]; show 1 ≤ _ + 4; omega
  have HX1 : Hid ((⟨(tellSegs (ds ++ [wEnd])).toArray⟩ : ByteArray).extract 1 (⟨(tellSegs (ds ++ [wEnd])).toArray⟩ : ByteArray).size = ⟨((tellSegs (ds ++ [wEnd])).drop 1).toArray⟩) := by
    show _ = _
    apply ByteArray.ext
    simp [ByteArray.size]
    exact List.take_of_length_le (by simp)
  have HU : Hid (∀ q, (⟨(upsTxt q).toArray⟩ : ByteArray) ++ ⟨(upTxt q).toArray⟩ = ⟨(upsTxt (q + 1)).toArray⟩ ∧ (⟨(upsTxt q).toArray⟩ : ByteArray).size ≤ 9 * q) := fun q => ⟨by rw [upsTxt_next]; exact app_mk _ _, by rw [size_mk]; exact upTxt_len q⟩
  have hc52 : ds.length + 1 ≤ cap5 ∧ cap5 ≤ 9223372036854775807 := by
    obtain ⟨_, _, hv3, h1, h2, _⟩ := own_shape HO6.out
    injection hv3 with _ _ hv3
    subst hv3
    rw [hld] at h1
    exact ⟨h1, h2⟩
  obtain ⟨hc51, hc52⟩ := hc52
  rw [← size_mk] at y1 y2 y3 y4 y5 y6
  clear hown' hgrow HO4 hat hglt hown hnc hcm hld hT hfb2 hwl htk HPT
  go_wp2_with fail
  go_loopw [16, 17] (fun s i wr => ∃ q : Nat, q ≤ n ∧ i = .int .i64 q ∧ s = .string ⟨(upsTxt q).toArray⟩ ∧ wr = w5) (fun _ i _ => n - (intOf i).toNat)
  case atStart => exact ⟨0, Nat.zero_le _, rfl, rfl, rfl⟩
  case round =>
    obtain ⟨q, hq, rfl, rfl, hwr⟩ := hrel
    have hwr := hwr.symm
    subst hwr
    by_cases hlt : q < n
    · obtain ⟨hu1, hu2⟩ := HU.out q
      have h3 : q % 3 = 0 ∨ q % 3 = 1 ∨ q % 3 = 2 := by omega
      rcases h3 with h3 | h3 | h3
      · rw [show upTxt q = [46, 46, 47] by unfold upTxt; rw [if_pos h3]] at hu1
        have HU1 : Hid (_ = _) := hu1
        have hm : (q : Int) % 3 = 0 := by omega
        have hz9 : (⟨#[46, 46, 47]⟩ : ByteArray).size = 3 := rfl
        generalize (⟨(upsTxt q).toArray⟩ : ByteArray) = tq at *
        have g0 : ∀ W : World, (Op.stringOp .add tq ⟨#[46, 46, 47]⟩).run Tryz.prog W = .ok (.string (tq ++ ⟨#[46, 46, 47]⟩)) W := fun W => run_string_add_sum W _ _ (by omega)
        clear hu1 hu2 hz9
        go_wp2
        go_roundw
        case rel => exact ⟨q + 1, by omega, by go_num, congrArg Value.string HU1.out, trivial⟩
        case measure => (simp [intOf]; try omega)
      · rw [show upTxt q = [46, 47, 37, 50, 69, 37, 50, 101, 47] by unfold upTxt; rw [if_neg (by omega), if_pos h3]] at hu1
        have HU1 : Hid (_ = _) := hu1
        have hm : (q : Int) % 3 = 1 := by omega
        have hz9 : (⟨#[46, 47, 37, 50, 69, 37, 50, 101, 47]⟩ : ByteArray).size = 9 := rfl
        generalize (⟨(upsTxt q).toArray⟩ : ByteArray) = tq at *
        have g0 : ∀ W : World, (Op.stringOp .add tq ⟨#[46, 47, 37, 50, 69, 37, 50, 101, 47]⟩).run Tryz.prog W = .ok (.string (tq ++ ⟨#[46, 47, 37, 50, 69, 37, 50, 101, 47]⟩)) W := fun W => run_string_add_sum W _ _ (by omega)
        clear hu1 hu2 hz9
        go_wp2
        go_roundw
        case rel => exact ⟨q + 1, by omega, by go_num, congrArg Value.string HU1.out, trivial⟩
        case measure => (simp [intOf]; try omega)
      · rw [show upTxt q = [46, 37, 50, 101, 92] by unfold upTxt; rw [if_neg (by omega), if_neg (by omega)]] at hu1
        have HU1 : Hid (_ = _) := hu1
        have hm : (q : Int) % 3 = 2 := by omega
        have hz9 : (⟨#[46, 37, 50, 101, 92]⟩ : ByteArray).size = 5 := rfl
        generalize (⟨(upsTxt q).toArray⟩ : ByteArray) = tq at *
        have g0 : ∀ W : World, (Op.stringOp .add tq ⟨#[46, 37, 50, 101, 92]⟩).run Tryz.prog W = .ok (.string (tq ++ ⟨#[46, 37, 50, 101, 92]⟩)) W := fun W => run_string_add_sum W _ _ (by omega)
        clear hu1 hu2 hz9
        go_wp2
        go_roundw
        case rel => exact ⟨q + 1, by omega, by go_num, congrArg Value.string HU1.out, trivial⟩
        case measure => (simp [intOf]; try omega)
    · have hqn : q = n := by omega
      subst hqn
      generalize (⟨((tellSegs (ds ++ [wEnd])).drop 1).toArray⟩ : ByteArray) = pd1 at *
      generalize (⟨(tellSegs (ds ++ [wEnd])).toArray⟩ : ByteArray) = pd at *
      generalize (⟨(upsTxt q).toArray⟩ : ByteArray) = tx at *
      generalize (⟨(tellSegs (ls.take (ls.length - q))).toArray⟩ : ByteArray) = lb at *
      generalize (⟨(tellSegs ((ls ++ [wLeaf]).take (ls.length - 1))).toArray⟩ : ByteArray) = l2 at *
      have hxx := HX1.out
      have y7 : (1 : Int) ≤ (pd.size : Int) := by omega
      have z_0 : (⟨#[47, 46]⟩ : ByteArray).size = 2 := rfl
      have z_1 : (⟨#[47]⟩ : ByteArray).size = 1 := rfl
      have z_2 : (⟨#[47, 47, 111, 116, 104, 101, 114]⟩ : ByteArray).size = 7 := rfl
      have z_3 : (⟨#[58, 47, 47, 111, 116, 104, 101, 114]⟩ : ByteArray).size = 8 := rfl
      have z_4 : (⟨#[63, 110, 101, 119, 32, 120]⟩ : ByteArray).size = 6 := rfl
      have z_5 : (⟨#[63, 110, 101, 119, 37, 50, 48, 120]⟩ : ByteArray).size = 8 := rfl
      have z_6 : (⟨#[35, 110, 101, 119, 32, 120]⟩ : ByteArray).size = 6 := rfl
      have z_7 : (⟨#[63, 113, 35, 110, 101, 119, 37, 50, 48, 120]⟩ : ByteArray).size = 10 := rfl
      have z_8 : (⟨#[]⟩ : ByteArray).size = 0 := rfl
      have z_9 : (⟨#[63, 113]⟩ : ByteArray).size = 2 := rfl
      have z_10 : (⟨#[46, 46]⟩ : ByteArray).size = 2 := rfl
      have z_11 : (⟨#[58]⟩ : ByteArray).size = 1 := rfl
      clear HU HX1 HS1 HS2 HS3 HPA HW6 HW4 HWD HPK HPU HO5 HO6 HD HL
      by_cases hlq : q < ls.length
      · go_wp2_with fail
        refine (HPD.out w5 (Below.refl _ _)).mono ?_
        rintro e W0 ⟨rfl, hw0⟩
        have hw0 := hw0.symm
        subst hw0
        have g0 : ∀ W : World, (Op.stringOp .add (tx) pd1).run Tryz.prog W = .ok (.string (tx ++ pd1)) W := fun W => run_string_add_sum W _ _ (by (try simp only [ByteArray.size_append]); omega)
        have g1 : ∀ W : World, (Op.stringOp .add (fb) lb).run Tryz.prog W = .ok (.string (fb ++ lb)) W := fun W => run_string_add_sum W _ _ (by (try simp only [ByteArray.size_append]); omega)
        have g2 : ∀ W : World, (Op.stringOp .add (fb ++ lb) pd).run Tryz.prog W = .ok (.string (fb ++ lb ++ pd)) W := fun W => run_string_add_sum W _ _ (by (try simp only [ByteArray.size_append]); omega)
        go_wp2_with fail
        go_region_held3 (fun _ => True) (trivial) (first | (go_at_call 25; refine Calls.mono (HPLB2.out _ (by exact same_heap rfl rfl rfl rfl)) ?_; rintro e W0 ⟨rfl, hw0⟩; have hw0 := hw0.symm; subst hw0) | (go_at_call 26; refine Calls.mono (HT1.out _ (by exact same_heap rfl rfl rfl rfl)) ?_; rintro e v1 ⟨rfl, b1⟩; have HV1 : Hid (Below w5.heap.size w5 v1) := b1; clear b1))
        clear g0 g1 g2
        have g0 : ∀ W : World, (Op.stringOp .add (pd) ⟨#[47, 46]⟩).run Tryz.prog W = .ok (.string (pd ++ ⟨#[47, 46]⟩)) W := fun W => run_string_add_sum W _ _ (by (try simp only [ByteArray.size_append]); omega)
        have g1 : ∀ W : World, (Op.stringOp .add (fb) pd).run Tryz.prog W = .ok (.string (fb ++ pd)) W := fun W => run_string_add_sum W _ _ (by (try simp only [ByteArray.size_append]); omega)
        have g2 : ∀ W : World, (Op.stringOp .add (fb ++ pd) ⟨#[47]⟩).run Tryz.prog W = .ok (.string (fb ++ pd ++ ⟨#[47]⟩)) W := fun W => run_string_add_sum W _ _ (by (try simp only [ByteArray.size_append]); omega)
        go_wp2_with fail
        refine (HT2.out _ HV1.out).mono ?_
        rintro e v2 ⟨rfl, b2⟩
        have HV2 : Hid (Below w5.heap.size w5 v2) := b2
        clear b2 g0 g1 g2
        have HR : Hid (∃ (a : Go.Addr) (cap : Nat), v2.cell? ⟨0, 0, none⟩ = some (.slice (some a) 5 cap) ∧ 5 ≤ cap ∧ v2.cell? (a.add k) = some (.string ⟨s.toArray⟩)) := by
          obtain ⟨a, cap, h1, h2, h3, h4⟩ := HSC.out v2 (HB6.out v2 HV2.out)
          exact ⟨a, cap, h1, h2, h4 k s HKS.out⟩
        obtain ⟨a2, cs2, e1, e2, e3⟩ := HR.out
        clear HR
        have g0 : ∀ W : World, (Op.stringOp .add (⟨#[47, 47, 111, 116, 104, 101, 114]⟩) pd).run Tryz.prog W = .ok (.string (⟨#[47, 47, 111, 116, 104, 101, 114]⟩ ++ pd)) W := fun W => run_string_add_sum W _ _ (by (try simp only [ByteArray.size_append]); omega)
        have g1 : ∀ W : World, (Op.stringOp .add (⟨s.toArray⟩) ⟨#[58, 47, 47, 111, 116, 104, 101, 114]⟩).run Tryz.prog W = .ok (.string (⟨s.toArray⟩ ++ ⟨#[58, 47, 47, 111, 116, 104, 101, 114]⟩)) W := fun W => run_string_add_sum W _ _ (by (try simp only [ByteArray.size_append]); omega)
        have g2 : ∀ W : World, (Op.stringOp .add (⟨s.toArray⟩ ++ ⟨#[58, 47, 47, 111, 116, 104, 101, 114]⟩) pd).run Tryz.prog W = .ok (.string (⟨s.toArray⟩ ++ ⟨#[58, 47, 47, 111, 116, 104, 101, 114]⟩ ++ pd)) W := fun W => run_string_add_sum W _ _ (by (try simp only [ByteArray.size_append]); omega)
        go_wp2_with fail
        refine (HT3.out _ HV2.out).mono ?_
        rintro e v3 ⟨rfl, b3⟩
        have HV3 : Hid (Below w5.heap.size w5 v3) := b3
        clear b3 g0 g1 g2
        clear e1 e2 e3
        have g0 : ∀ W : World, (Op.stringOp .add (fb) pl).run Tryz.prog W = .ok (.string (fb ++ pl)) W := fun W => run_string_add_sum W _ _ (by (try simp only [ByteArray.size_append]); omega)
        have g1 : ∀ W : World, (Op.stringOp .add (fb ++ pl) ⟨#[63, 110, 101, 119, 37, 50, 48, 120]⟩).run Tryz.prog W = .ok (.string (fb ++ pl ++ ⟨#[63, 110, 101, 119, 37, 50, 48, 120]⟩)) W := fun W => run_string_add_sum W _ _ (by (try simp only [ByteArray.size_append]); omega)
        go_wp2_with fail
        refine (HPA5.out _ HV3.out).mono ?_
        rintro e W0 ⟨rfl, hw0⟩
        have hw0 := hw0.symm
        subst hw0
        go_wp2_with fail
        refine (HT4.out _ HV3.out).mono ?_
        rintro e v4 ⟨rfl, b4⟩
        have HV4 : Hid (Below w5.heap.size w5 v4) := b4
        clear b4 g0 g1
        have g0 : ∀ W : World, (Op.stringOp .add (fb) pl).run Tryz.prog W = .ok (.string (fb ++ pl)) W := fun W => run_string_add_sum W _ _ (by (try simp only [ByteArray.size_append]); omega)
        have g1 : ∀ W : World, (Op.stringOp .add (fb ++ pl) ⟨#[63, 113, 35, 110, 101, 119, 37, 50, 48, 120]⟩).run Tryz.prog W = .ok (.string (fb ++ pl ++ ⟨#[63, 113, 35, 110, 101, 119, 37, 50, 48, 120]⟩)) W := fun W => run_string_add_sum W _ _ (by (try simp only [ByteArray.size_append]); omega)
        go_wp2_with fail
        refine (HPA5.out _ HV4.out).mono ?_
        rintro e W0 ⟨rfl, hw0⟩
        have hw0 := hw0.symm
        subst hw0
        go_wp2_with fail
        refine (HT5.out _ HV4.out).mono ?_
        rintro e v5 ⟨rfl, b5⟩
        have HV5 : Hid (Below w5.heap.size w5 v5) := b5
        clear b5 g0 g1
        have g0 : ∀ W : World, (Op.stringOp .add (fb) pl).run Tryz.prog W = .ok (.string (fb ++ pl)) W := fun W => run_string_add_sum W _ _ (by (try simp only [ByteArray.size_append]); omega)
        have g1 : ∀ W : World, (Op.stringOp .add (fb ++ pl) ⟨#[63, 113]⟩).run Tryz.prog W = .ok (.string (fb ++ pl ++ ⟨#[63, 113]⟩)) W := fun W => run_string_add_sum W _ _ (by (try simp only [ByteArray.size_append]); omega)
        go_wp2_with fail
        refine (HPA5.out _ HV5.out).mono ?_
        rintro e W0 ⟨rfl, hw0⟩
        have hw0 := hw0.symm
        subst hw0
        go_wp2_with fail
        refine (HT6.out _ HV5.out).mono ?_
        rintro e v6 ⟨rfl, b6⟩
        have HV6 : Hid (Below w5.heap.size w5 v6) := b6
        clear b6 g0 g1
        have g0 : ∀ W : World, (Op.stringOp .add (fb) l2).run Tryz.prog W = .ok (.string (fb ++ l2)) W := fun W => run_string_add_sum W _ _ (by (try simp only [ByteArray.size_append]); omega)
        have g1 : ∀ W : World, (Op.stringOp .add (fb ++ l2) ⟨#[47]⟩).run Tryz.prog W = .ok (.string (fb ++ l2 ++ ⟨#[47]⟩)) W := fun W => run_string_add_sum W _ _ (by (try simp only [ByteArray.size_append]); omega)
        go_wp2_with fail
        refine (HPL2.out _ HV6.out).mono ?_
        rintro e W0 ⟨rfl, hw0⟩
        have hw0 := hw0.symm
        subst hw0
        go_wp2_with fail
        refine (HT7.out _ HV6.out).mono ?_
        rintro e v7 ⟨rfl, b7⟩
        have HV7 : Hid (Below w5.heap.size w5 v7) := b7
        clear b7 g0 g1
        have HR : Hid (∃ (a : Go.Addr) (cap : Nat), v7.cell? ⟨0, 0, none⟩ = some (.slice (some a) 5 cap) ∧ 5 ≤ cap ∧ v7.cell? (a.add k) = some (.string ⟨s.toArray⟩)) := by
          obtain ⟨a, cap, h1, h2, h3, h4⟩ := HSC.out v7 (HB6.out v7 HV7.out)
          exact ⟨a, cap, h1, h2, h4 k s HKS.out⟩
        obtain ⟨a3, cs3, e1, e2, e3⟩ := HR.out
        clear HR
        have g0 : ∀ W : World, (Op.stringOp .add (⟨s.toArray⟩) ⟨#[58]⟩).run Tryz.prog W = .ok (.string (⟨s.toArray⟩ ++ ⟨#[58]⟩)) W := fun W => run_string_add_sum W _ _ (by (try simp only [ByteArray.size_append]); omega)
        have g1 : ∀ W : World, (Op.stringOp .add (⟨s.toArray⟩ ++ ⟨#[58]⟩) pd).run Tryz.prog W = .ok (.string (⟨s.toArray⟩ ++ ⟨#[58]⟩ ++ pd)) W := fun W => run_string_add_sum W _ _ (by (try simp only [ByteArray.size_append]); omega)
        have g2 : ∀ W : World, (Op.stringOp .add (fb) pd).run Tryz.prog W = .ok (.string (fb ++ pd)) W := fun W => run_string_add_sum W _ _ (by (try simp only [ByteArray.size_append]); omega)
        go_wp2_with fail
        refine (HT8.out _ HV7.out).mono ?_
        rintro e v8 ⟨rfl, b8⟩
        have HV8 : Hid (Below w5.heap.size w5 v8) := b8
        clear b8 g0 g1 g2
        go_wp2_with fail
        go_ret
        exact ⟨rfl, HB6.out v8 HV8.out⟩
      · go_wp2_with fail
        refine (HPD.out w5 (Below.refl _ _)).mono ?_
        rintro e W0 ⟨rfl, hw0⟩
        have hw0 := hw0.symm
        subst hw0
        have g0 : ∀ W : World, (Op.stringOp .add (tx) pd1).run Tryz.prog W = .ok (.string (tx ++ pd1)) W := fun W => run_string_add_sum W _ _ (by (try simp only [ByteArray.size_append]); omega)
        have g1 : ∀ W : World, (Op.stringOp .add (fb) lb).run Tryz.prog W = .ok (.string (fb ++ lb)) W := fun W => run_string_add_sum W _ _ (by (try simp only [ByteArray.size_append]); omega)
        have g2 : ∀ W : World, (Op.stringOp .add (fb ++ lb) pd).run Tryz.prog W = .ok (.string (fb ++ lb ++ pd)) W := fun W => run_string_add_sum W _ _ (by (try simp only [ByteArray.size_append]); omega)
        go_wp2_with fail
        go_region_held3 (fun _ => True) (trivial) (first | (go_at_call 25; refine Calls.mono (HPN.out _ (by omega)) ?_; rintro e W0 ⟨rfl, hw0⟩; have hw0 := hw0.symm; subst hw0) | (go_at_call 26; refine Calls.mono (HT1.out _ (by exact same_heap rfl rfl rfl rfl)) ?_; rintro e v1 ⟨rfl, b1⟩; have HV1 : Hid (Below w5.heap.size w5 v1) := b1; clear b1))
        clear g0 g1 g2
        have g0 : ∀ W : World, (Op.stringOp .add (pd) ⟨#[47, 46]⟩).run Tryz.prog W = .ok (.string (pd ++ ⟨#[47, 46]⟩)) W := fun W => run_string_add_sum W _ _ (by (try simp only [ByteArray.size_append]); omega)
        have g1 : ∀ W : World, (Op.stringOp .add (fb) pd).run Tryz.prog W = .ok (.string (fb ++ pd)) W := fun W => run_string_add_sum W _ _ (by (try simp only [ByteArray.size_append]); omega)
        have g2 : ∀ W : World, (Op.stringOp .add (fb ++ pd) ⟨#[47]⟩).run Tryz.prog W = .ok (.string (fb ++ pd ++ ⟨#[47]⟩)) W := fun W => run_string_add_sum W _ _ (by (try simp only [ByteArray.size_append]); omega)
        go_wp2_with fail
        refine (HT2.out _ HV1.out).mono ?_
        rintro e v2 ⟨rfl, b2⟩
        have HV2 : Hid (Below w5.heap.size w5 v2) := b2
        clear b2 g0 g1 g2
        have HR : Hid (∃ (a : Go.Addr) (cap : Nat), v2.cell? ⟨0, 0, none⟩ = some (.slice (some a) 5 cap) ∧ 5 ≤ cap ∧ v2.cell? (a.add k) = some (.string ⟨s.toArray⟩)) := by
          obtain ⟨a, cap, h1, h2, h3, h4⟩ := HSC.out v2 (HB6.out v2 HV2.out)
          exact ⟨a, cap, h1, h2, h4 k s HKS.out⟩
        obtain ⟨a2, cs2, e1, e2, e3⟩ := HR.out
        clear HR
        have g0 : ∀ W : World, (Op.stringOp .add (⟨#[47, 47, 111, 116, 104, 101, 114]⟩) pd).run Tryz.prog W = .ok (.string (⟨#[47, 47, 111, 116, 104, 101, 114]⟩ ++ pd)) W := fun W => run_string_add_sum W _ _ (by (try simp only [ByteArray.size_append]); omega)
        have g1 : ∀ W : World, (Op.stringOp .add (⟨s.toArray⟩) ⟨#[58, 47, 47, 111, 116, 104, 101, 114]⟩).run Tryz.prog W = .ok (.string (⟨s.toArray⟩ ++ ⟨#[58, 47, 47, 111, 116, 104, 101, 114]⟩)) W := fun W => run_string_add_sum W _ _ (by (try simp only [ByteArray.size_append]); omega)
        have g2 : ∀ W : World, (Op.stringOp .add (⟨s.toArray⟩ ++ ⟨#[58, 47, 47, 111, 116, 104, 101, 114]⟩) pd).run Tryz.prog W = .ok (.string (⟨s.toArray⟩ ++ ⟨#[58, 47, 47, 111, 116, 104, 101, 114]⟩ ++ pd)) W := fun W => run_string_add_sum W _ _ (by (try simp only [ByteArray.size_append]); omega)
        go_wp2_with fail
        refine (HT3.out _ HV2.out).mono ?_
        rintro e v3 ⟨rfl, b3⟩
        have HV3 : Hid (Below w5.heap.size w5 v3) := b3
        clear b3 g0 g1 g2
        clear e1 e2 e3
        have g0 : ∀ W : World, (Op.stringOp .add (fb) pl).run Tryz.prog W = .ok (.string (fb ++ pl)) W := fun W => run_string_add_sum W _ _ (by (try simp only [ByteArray.size_append]); omega)
        have g1 : ∀ W : World, (Op.stringOp .add (fb ++ pl) ⟨#[63, 110, 101, 119, 37, 50, 48, 120]⟩).run Tryz.prog W = .ok (.string (fb ++ pl ++ ⟨#[63, 110, 101, 119, 37, 50, 48, 120]⟩)) W := fun W => run_string_add_sum W _ _ (by (try simp only [ByteArray.size_append]); omega)
        go_wp2_with fail
        refine (HPA5.out _ HV3.out).mono ?_
        rintro e W0 ⟨rfl, hw0⟩
        have hw0 := hw0.symm
        subst hw0
        go_wp2_with fail
        refine (HT4.out _ HV3.out).mono ?_
        rintro e v4 ⟨rfl, b4⟩
        have HV4 : Hid (Below w5.heap.size w5 v4) := b4
        clear b4 g0 g1
        have g0 : ∀ W : World, (Op.stringOp .add (fb) pl).run Tryz.prog W = .ok (.string (fb ++ pl)) W := fun W => run_string_add_sum W _ _ (by (try simp only [ByteArray.size_append]); omega)
        have g1 : ∀ W : World, (Op.stringOp .add (fb ++ pl) ⟨#[63, 113, 35, 110, 101, 119, 37, 50, 48, 120]⟩).run Tryz.prog W = .ok (.string (fb ++ pl ++ ⟨#[63, 113, 35, 110, 101, 119, 37, 50, 48, 120]⟩)) W := fun W => run_string_add_sum W _ _ (by (try simp only [ByteArray.size_append]); omega)
        go_wp2_with fail
        refine (HPA5.out _ HV4.out).mono ?_
        rintro e W0 ⟨rfl, hw0⟩
        have hw0 := hw0.symm
        subst hw0
        go_wp2_with fail
        refine (HT5.out _ HV4.out).mono ?_
        rintro e v5 ⟨rfl, b5⟩
        have HV5 : Hid (Below w5.heap.size w5 v5) := b5
        clear b5 g0 g1
        have g0 : ∀ W : World, (Op.stringOp .add (fb) pl).run Tryz.prog W = .ok (.string (fb ++ pl)) W := fun W => run_string_add_sum W _ _ (by (try simp only [ByteArray.size_append]); omega)
        have g1 : ∀ W : World, (Op.stringOp .add (fb ++ pl) ⟨#[63, 113]⟩).run Tryz.prog W = .ok (.string (fb ++ pl ++ ⟨#[63, 113]⟩)) W := fun W => run_string_add_sum W _ _ (by (try simp only [ByteArray.size_append]); omega)
        go_wp2_with fail
        refine (HPA5.out _ HV5.out).mono ?_
        rintro e W0 ⟨rfl, hw0⟩
        have hw0 := hw0.symm
        subst hw0
        go_wp2_with fail
        refine (HT6.out _ HV5.out).mono ?_
        rintro e v6 ⟨rfl, b6⟩
        have HV6 : Hid (Below w5.heap.size w5 v6) := b6
        clear b6 g0 g1
        have g0 : ∀ W : World, (Op.stringOp .add (fb) l2).run Tryz.prog W = .ok (.string (fb ++ l2)) W := fun W => run_string_add_sum W _ _ (by (try simp only [ByteArray.size_append]); omega)
        have g1 : ∀ W : World, (Op.stringOp .add (fb ++ l2) ⟨#[47]⟩).run Tryz.prog W = .ok (.string (fb ++ l2 ++ ⟨#[47]⟩)) W := fun W => run_string_add_sum W _ _ (by (try simp only [ByteArray.size_append]); omega)
        go_wp2_with fail
        refine (HPL2.out _ HV6.out).mono ?_
        rintro e W0 ⟨rfl, hw0⟩
        have hw0 := hw0.symm
        subst hw0
        go_wp2_with fail
        refine (HT7.out _ HV6.out).mono ?_
        rintro e v7 ⟨rfl, b7⟩
        have HV7 : Hid (Below w5.heap.size w5 v7) := b7
        clear b7 g0 g1
        have HR : Hid (∃ (a : Go.Addr) (cap : Nat), v7.cell? ⟨0, 0, none⟩ = some (.slice (some a) 5 cap) ∧ 5 ≤ cap ∧ v7.cell? (a.add k) = some (.string ⟨s.toArray⟩)) := by
          obtain ⟨a, cap, h1, h2, h3, h4⟩ := HSC.out v7 (HB6.out v7 HV7.out)
          exact ⟨a, cap, h1, h2, h4 k s HKS.out⟩
        obtain ⟨a3, cs3, e1, e2, e3⟩ := HR.out
        clear HR
        have g0 : ∀ W : World, (Op.stringOp .add (⟨s.toArray⟩) ⟨#[58]⟩).run Tryz.prog W = .ok (.string (⟨s.toArray⟩ ++ ⟨#[58]⟩)) W := fun W => run_string_add_sum W _ _ (by (try simp only [ByteArray.size_append]); omega)
        have g1 : ∀ W : World, (Op.stringOp .add (⟨s.toArray⟩ ++ ⟨#[58]⟩) pd).run Tryz.prog W = .ok (.string (⟨s.toArray⟩ ++ ⟨#[58]⟩ ++ pd)) W := fun W => run_string_add_sum W _ _ (by (try simp only [ByteArray.size_append]); omega)
        have g2 : ∀ W : World, (Op.stringOp .add (fb) pd).run Tryz.prog W = .ok (.string (fb ++ pd)) W := fun W => run_string_add_sum W _ _ (by (try simp only [ByteArray.size_append]); omega)
        go_wp2_with fail
        refine (HT8.out _ HV7.out).mono ?_
        rintro e v8 ⟨rfl, b8⟩
        have HV8 : Hid (Below w5.heap.size w5 v8) := b8
        clear b8 g0 g1 g2
        go_wp2_with fail
        go_ret
        exact ⟨rfl, HB6.out v8 HV8.out⟩
end Go.Proofs
