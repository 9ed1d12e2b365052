/-
  What Paired of package moorkeep answers.
-/
import Derived.Test.YtkcnageeamappaaDoorPJoin
import Derived.Deep.DeepCutAuto
import Derived.BigQuiet
namespace Go.Proofs
open Go.RowKit Go.Moor

/-- A row of texts that is handed in. -/
def StrRowA (w : World) (sp : Option Go.Addr) (xs : List ByteArray) : Prop := ∀ (j : Nat) x, xs[j]? = some x → ∃ a0 : Go.Addr, sp = some a0 ∧ a0.block < w.heap.size ∧ w.cell? (a0.add j) = some (.string x)
theorem StrRowA.below {w w' : World} {sp : Option Go.Addr} {xs : List ByteArray} (h : StrRowA w sp xs) (hb : Below w.heap.size w w') : StrRowA w' sp xs := by
  intro j x hj
  obtain ⟨a0, h1, h2, h3⟩ := h j x hj
  refine ⟨a0, h1, Nat.lt_of_lt_of_le h2 hb.size, ?_⟩
  rw [← h3]
  exact hb.cell (p := a0.add j) (by rw [show (a0.add j).block = a0.block by unfold Go.Addr.add; split <;> rfl]; exact h2)
theorem PairRow.get {w : World} {sp : Option Go.Addr} {n cap : Nat} {ps : List (Bs × Bs)} (h : PairRow w (.slice sp n cap) ps) {j : Nat} {p : Bs × Bs} (hj : ps[j]? = some p) : ∃ g, sp = some ⟨g, 0, none⟩ ∧ w.cell? ⟨g, j * 2, none⟩ = some (.string ⟨p.1.toArray⟩) ∧ w.cell? ⟨g, j * 2 + 1, none⟩ = some (.string ⟨p.2.toArray⟩) := by
  obtain ⟨sp', cap', he, _, _, hc⟩ := h
  obtain ⟨g, hg, _, c1, c2⟩ := hc j p hj
  injection he with h1 _ _
  exact ⟨g, h1.trans hg, c1, c2⟩
def pAt (xs ys : List ByteArray) (i : Nat) : Bs × Bs := ((xs.getD i ⟨#[]⟩).data.toList.take 60, if i < ys.length then (ys.getD i ⟨#[]⟩).data.toList.take 60 else [])
def want (xs ys : List ByteArray) (q : Nat) : List (Bs × Bs) := (List.range q).map (pAt xs ys)
theorem want_len (xs ys : List ByteArray) (q : Nat) : (want xs ys q).length = q := by simp [want]
theorem want_next (xs ys : List ByteArray) (q : Nat) : want xs ys (q + 1) = want xs ys q ++ [pAt xs ys q] := by simp [want, List.range_succ]
theorem pAt_len (xs ys : List ByteArray) (i : Nat) : (pAt xs ys i).1.length ≤ 60 ∧ (pAt xs ys i).2.length ≤ 60 := by
  constructor
  · show (List.take 60 _).length ≤ 60
    rw [List.length_take]; omega
  · show (if i < ys.length then _ else _ : Bs).length ≤ 60
    split
    · rw [List.length_take]; omega
    · simp
theorem want_mem (xs ys : List ByteArray) (q : Nat) : ∀ p ∈ want xs ys q, p.1.length ≤ 60 ∧ p.2.length ≤ 60 := by
  intro p hp
  unfold want at hp
  rw [List.mem_map] at hp
  obtain ⟨i, _, rfl⟩ := hp
  exact pAt_len xs ys i
theorem sumLen_app (a b : List (Bs × Bs)) : sumLen (a ++ b) = sumLen a + sumLen b := by unfold sumLen; rw [List.map_append, List.sum_append]
theorem sumLen_want (xs ys : List ByteArray) : ∀ q : Nat, sumLen (want xs ys q) ≤ 120 * q
  | 0 => by simp [want, sumLen]
  | q + 1 => by
    have ih := sumLen_want xs ys q
    have h := pAt_len xs ys q
    rw [want_next, sumLen_app]
    have : sumLen [pAt xs ys q] = (pAt xs ys q).1.length + (pAt xs ys q).2.length := by simp [sumLen]
    omega
theorem esc_len3 (s : Int) (l : Bs) : (esc s l).length ≤ 3 * l.length := by
  induction l with
  | nil => simp [esc]
  | cons c l ih =>
    have h1 : (escB s c).length ≤ 3 := by unfold escB; split <;> simp
    have h2 : esc s (c :: l) = escB s c ++ esc s l := by simp [esc]
    rw [h2, List.length_append, List.length_cons]
    omega
theorem esc6_len (l : Bs) : (esc 6 l).length ≤ 3 * l.length := esc_len3 6 l
theorem write_len (xs ys : List ByteArray) : ∀ q : Nat, (writePairs (want xs ys q)).length ≤ 400 * q
  | 0 => by simp [want, writePairs]
  | q + 1 => by
    have ih := write_len xs ys q
    have h := pAt_len xs ys q
    have h1 := esc6_len (pAt xs ys q).1
    have h2 := esc6_len (pAt xs ys q).2
    rw [want_next, writePairs_snoc]
    unfold piece
    simp only [List.length_append, List.length_cons]
    omega

set_option maxHeartbeats 16000000 in
set_option maxRecDepth 8000 in
theorem Tryd.Paired_any (sp0 sp1 : Option Go.Addr) (c0 c1 : Nat) (xs ys : List ByteArray) (w : World) (h0 : StrRowA w sp0 xs) (h1 : StrRowA w sp1 ys) (henv : Tryd.EnvP w) :
    Calls Tryd.prog 4 #[.slice sp0 xs.length c0, .slice sp1 ys.length c1] w fun e w' => e = .returned (.bool true) ∧ Below w.heap.size w w' := by
  obtain ⟨i0, hi, hz0, hz1, hz2⟩ := info_parts Tryd.infoPair
  have hgz := henv.size
  have HR0 : Hid (∀ w1, Below w.heap.size w w1 → StrRowA w1 sp0 xs) := fun w1 b => h0.below b
  have HR1 : Hid (∀ w1, Below w.heap.size w w1 → StrRowA w1 sp1 ys) := fun w1 b => h1.below b
  have HEN : Hid (∀ w1, Below w.heap.size w w1 → Tryd.EnvP w1) := fun w1 b => henv.below b
  have HES : Hid (∀ (x : Bs) w1, x.length ≤ 60 → Below w.heap.size w w1 → Calls Tryd.prog 6 #[.string ⟨x.toArray⟩, .int .i64 6] w1 fun e w' => e = .returned (.string ⟨(esc 6 x).toArray⟩) ∧ Below w1.heap.size w1 w') := fun x w1 hx b => Tryd.escape_any ⟨x.toArray⟩ 6 w1 (by rw [size_mk]; omega) (henv.below b).sets (by have := (henv.below b).size; omega)
  clear h0 h1 henv
  go_enter Tryd.func4, Tryd.ntmps4
  go_wp2_with fail
  go_loopw [5, 6, 7] (fun s5 s6 i wr => ∃ q : Nat, q ≤ xs.length ∧ q ≤ 8 ∧ i = .int .i64 q ∧ wr.ownsRow w.heap.size 30 2 s5 (want xs ys q).length (pflat (want xs ys q)) ∧ s6 = .string ⟨(writePairs (want xs ys q)).toArray⟩ ∧ Below w.heap.size w wr) (fun _ _ i _ => 8 - (intOf i).toNat)
  case atStart => exact ⟨0, Nat.zero_le _, Nat.zero_le _, rfl, ⟨rfl, Or.inl ⟨rfl, rfl⟩⟩, rfl, Below.refl _ _⟩
  case round =>
    rename_i wr _
    obtain ⟨q, hq, hq8, rfl, hown, rfl, hb⟩ := hrel
    obtain ⟨sp, cap, rfl⟩ := own_slice hown
    have HOW : Hid (wr.ownsRow w.heap.size 30 2 (.slice sp (want xs ys q).length cap) (want xs ys q).length (pflat (want xs ys q))) := hown
    have HB : Hid (Below w.heap.size w wr) := hb
    clear hown
    by_cases hlt : q < xs.length ∧ q < 8
    · obtain ⟨hl1, hl2⟩ := hlt
      obtain ⟨x, hx⟩ : ∃ x, xs[q]? = some x := ⟨xs[q], List.getElem?_eq_getElem hl1⟩
      obtain ⟨a0, hsp0, _, cx⟩ := HR0.out wr hb q x hx
      subst hsp0
      have hi1 : (q : Int) < (xs.length : Int) := by omega
      have hi2 : (q : Int) < 8 := by omega
      have HSX : Hid (∀ w1, Calls Tryd.prog 5 #[.string x, .int .i64 60] w1 fun e w' => e = .returned (.string ⟨(pAt xs ys q).1.toArray⟩) ∧ w' = w1) := by
        intro w1
        have e : (pAt xs ys q).1 = x.data.toList.take 60 := by
          show List.take 60 (xs.getD q ⟨#[]⟩).data.toList = _
          rw [List.getD_eq_getElem?_getD, hx]
          rfl
        rw [e]
        exact Tryd.short_60 x w1
      have hpl := pAt_len xs ys q
      have HE1 : Hid (∀ w1, Below w.heap.size w w1 → Calls Tryd.prog 6 #[.string ⟨(pAt xs ys q).1.toArray⟩, .int .i64 6] w1 fun e w' => e = .returned (.string ⟨(esc 6 (pAt xs ys q).1).toArray⟩) ∧ Below w1.heap.size w1 w') := fun w1 b => HES.out _ w1 hpl.1 b
      have HE2 : Hid (∀ w1, Below w.heap.size w w1 → Calls Tryd.prog 6 #[.string ⟨(pAt xs ys q).2.toArray⟩, .int .i64 6] w1 fun e w' => e = .returned (.string ⟨(esc 6 (pAt xs ys q).2).toArray⟩) ∧ Below w1.heap.size w1 w') := fun w1 b => HES.out _ w1 hpl.2 b
      have HSY : Hid (q < ys.length → ∃ y a1, ys[q]? = some y ∧ sp1 = some a1 ∧ wr.cell? (a1.add q) = some (.string y) ∧ (∀ w1, Below wr.heap.size wr w1 → w1.cell? (a1.add q) = some (.string y)) ∧ ∀ w1, Calls Tryd.prog 5 #[.string y, .int .i64 60] w1 fun e w' => e = .returned (.string ⟨(pAt xs ys q).2.toArray⟩) ∧ w' = w1) := by
        intro hy
        obtain ⟨y, hyy⟩ : ∃ y, ys[q]? = some y := ⟨ys[q], List.getElem?_eq_getElem hy⟩
        obtain ⟨a1, hs1, hz, cy⟩ := HR1.out wr hb q y hyy
        refine ⟨y, a1, hyy, hs1, cy, fun w1 b => (b.cell (p := a1.add q) (by rw [show (a1.add q).block = a1.block by unfold Go.Addr.add; split <;> rfl]; exact hz)).trans cy, fun w1 => ?_⟩
        have e : (pAt xs ys q).2 = y.data.toList.take 60 := by
          show (if q < ys.length then List.take 60 (ys.getD q ⟨#[]⟩).data.toList else []) = _
          rw [if_pos hy, List.getD_eq_getElem?_getD, hyy]
          rfl
        rw [e]
        exact Tryd.short_60 y w1
      have HNY : Hid (¬ q < ys.length → (⟨(pAt xs ys q).2.toArray⟩ : ByteArray) = ⟨#[]⟩) := by
        intro hy
        have e : (pAt xs ys q).2 = [] := if_neg hy
        rw [e]
      have hwl := write_len xs ys q
      have hsz : (⟨(writePairs (want xs ys q)).toArray⟩ : ByteArray).size = (writePairs (want xs ys q)).length := size_mk _
      have hn1 : (⟨(esc 6 (pAt xs ys q).1).toArray⟩ : ByteArray).size ≤ 180 := by rw [size_mk]; have := esc6_len (pAt xs ys q).1; omega
      have hn2 : (⟨(esc 6 (pAt xs ys q).2).toArray⟩ : ByteArray).size ≤ 180 := by rw [size_mk]; have := esc6_len (pAt xs ys q).2; omega
      have HSUM : Hid ((⟨(writePairs (want xs ys q)).toArray⟩ : ByteArray) ++ ⟨#[38, 38]⟩ ++ ⟨(esc 6 (pAt xs ys q).1).toArray⟩ ++ ⟨#[61]⟩ ++ ⟨(esc 6 (pAt xs ys q).2).toArray⟩ = ⟨(writePairs (want xs ys (q + 1))).toArray⟩) := by
        show _ = _
        have e1 : (⟨(writePairs (want xs ys q)).toArray⟩ : ByteArray) ++ ⟨#[38, 38]⟩ = ⟨(writePairs (want xs ys q) ++ [38, 38]).toArray⟩ := app_mkP _ [38, 38]
        rw [e1, app_mkP]
        have e2 : ∀ l : Bs, (⟨l.toArray⟩ : ByteArray) ++ ⟨#[61]⟩ = ⟨(l ++ [61]).toArray⟩ := fun l => app_mkP l [61]
        rw [e2, app_mkP, want_next, writePairs_snoc]
        unfold piece
        simp
      have HPF : Hid (pflat (want xs ys q) ++ [.string ⟨(pAt xs ys q).1.toArray⟩, .string ⟨(pAt xs ys q).2.toArray⟩] = pflat (want xs ys (q + 1))) := by
        show _ = _
        rw [want_next, pflat_app]
        rfl
      have HWL : Hid ((want xs ys q).length = q ∧ (want xs ys (q + 1)).length = (want xs ys q).length + 1) := ⟨want_len xs ys q, by rw [want_len, want_len]⟩
      have hwn : (want xs ys q).length = q := want_len xs ys q
      have hwq : (want xs ys q).length ≤ 8 := by omega
      generalize (⟨(writePairs (want xs ys q)).toArray⟩ : ByteArray) = acc at *
      generalize (⟨(esc 6 (pAt xs ys q).1).toArray⟩ : ByteArray) = e1 at *
      generalize (⟨(esc 6 (pAt xs ys q).2).toArray⟩ : ByteArray) = e2 at *
      generalize (⟨(pAt xs ys q).1.toArray⟩ : ByteArray) = nb at *
      generalize (⟨(pAt xs ys q).2.toArray⟩ : ByteArray) = vb at *
      generalize pflat (want xs ys q) = pf at *
      clear hb hx hwn
      obtain ⟨V, hV⟩ : ∃ V, V = wr.alloc (.cells #[.string nb, .string ⟨#[]⟩] 30) := ⟨_, rfl⟩
      have HV : Hid (V = wr.alloc (.cells #[.string nb, .string ⟨#[]⟩] 30)) := hV
      have HVF : Hid (Below wr.heap.size wr V ∧ V.heap[wr.heap.size]? = some (.cells #[.string nb, .string ⟨#[]⟩] 30 (0, 0)) ∧ V.cell? ⟨wr.heap.size, 0, none⟩ = some (.string nb) ∧ V.cell? ⟨wr.heap.size, 1, none⟩ = some (.string ⟨#[]⟩) ∧ V.frozen? ⟨wr.heap.size, 1, none⟩ = false) := by
        have k : V.heap[wr.heap.size]? = some (.cells #[.string nb, .string ⟨#[]⟩] 30 (0, 0)) := by rw [hV]; exact heap_alloc_new wr _
        refine ⟨by rw [hV]; exact (Below.refl _ _).alloc (Nat.le_refl _) _, k, ?_, ?_, ?_⟩
        · unfold World.cell?; simp [k]
        · unfold World.cell?; simp [k]
        · unfold World.frozen?; simp [k]
      clear hV
      go_wp2_with fail
      refine Calls.mono (HSX.out wr) ?_
      rintro e W0 ⟨rfl, hw0⟩
      have hw0 := hw0.symm
      subst hw0
      go_upto_if 37 with fail
      rw [← HV.out]
      obtain ⟨hvb, hvk, v0, v1, v2⟩ := HVF.out
      have HVB : Hid _ := hvb
      have HVK : Hid _ := hvk
      clear hvb hvk HV
      go_cut [8] from 18 to 58 (fun x8 wx => x8 = .pointer (some ⟨wr.heap.size, 0, none⟩) ∧ Below wr.heap.size wr wx ∧ wx.cell? ⟨wr.heap.size, 0, none⟩ = some (.string nb) ∧ wx.cell? ⟨wr.heap.size, 1, none⟩ = some (.string vb) ∧ wr.heap.size < wx.heap.size)
      case first =>
        as_aux_lemma =>
          by_cases hy : q < ys.length
          · obtain ⟨y, a1, hyy, hsp1, _, hcy, hsy⟩ := HSY.out hy
            subst hsp1
            have cy := hcy V HVB.out
            have HSYY : Hid _ := hsy
            have hj1 : (q : Int) < (ys.length : Int) := by omega
            clear hyy hcy hsy HSY HNY
            go_wp2_with fail
            refine Calls.mono (HSYY.out V) ?_
            rintro e W0 ⟨rfl, hw0⟩
            have hw0 := hw0.symm
            subst hw0
            go_wp2_with fail
            go_meet
            have k := heap_setCell_same V wr.heap.size 1 _ 30 (.string vb) HVK.out
            have hz : wr.heap.size < V.heap.size := (Array.getElem?_eq_some_iff.1 HVK.out).1
            refine ⟨rfl, HVB.out.setCell (Nat.le_refl _) _, ?_, ?_, by simpa using hz⟩
            · unfold World.cell?; simp [k]
            · unfold World.cell?; simp [k]
          · have hvb := HNY.out hy
            have hj1 : ¬ (q : Int) < (ys.length : Int) := by omega
            subst hvb
            clear HSY HNY
            go_wp2_with fail
            go_meet
            exact ⟨rfl, HVB.out, v0, v1, (Array.getElem?_eq_some_iff.1 HVK.out).1⟩
      case rest =>
      obtain ⟨hx8, bU, u0, u1, uz⟩ := hcut
      subst hx8
      have HO4 := (pown_below HOW.out bU).alloc (.cells #[.string nb, .string vb] 30)
      have hbz : w.heap.size ≤ wr.heap.size := HB.out.size
      have HK3 : Hid (Below w.heap.size w wc) := HB.out.trans (bU.mono hbz)
      have HU0 : Hid (wc.cell? ⟨wr.heap.size, 0, none⟩ = some (.string nb) ∧ wc.cell? ⟨wr.heap.size, 1, none⟩ = some (.string vb)) := ⟨u0, u1⟩
      have HOB : Hid (∀ g, (Value.slice sp (want xs ys q).length cap).ownBlock = some g → g < wr.heap.size) := fun g hg => (HOW.out.lt g hg).2
      clear HVB HVK v0 v1 v2 HSY HNY bU HSX cx
      go_wp2_with (at_builtin; refine wpList_append_lies _ rfl _ _ 28 rfl w.heap.size 30 i0 (.agg #[.string ⟨#[]⟩, .string ⟨#[]⟩]) 2 32 Tryd.underlying28 hi hz0 hz1 hz2 rfl (by decide) _ _ _ rfl HO4 ⟨wc.heap.size, 0, none⟩ 1 1 [.string nb, .string vb] rfl rfl ?c1 ?c2 (by decide) ?c3 ?c4 ?c5 _ rfl ?_)
      case c1 =>
        intro j u hj
        match j, hj with
        | 0, hj => simp at hj; subst hj; exact World.cell?_alloc_new wc #[.string nb, .string vb] 30 0
        | 1, hj => simp at hj; subst hj; exact World.cell?_alloc_new wc #[.string nb, .string vb] 30 1
      case c2 => intro u hu; simp at hu; rcases hu with rfl | rfl <;> rfl
      case c3 => unfold maxLen; omega
      case c4 => omega
      case c5 => simp; omega
      intro g cap3 w5 hown' hgrow hat hglt
      have HOW5 : Hid (w5.ownsRow w.heap.size 30 2 (.slice (some ⟨g, 0, none⟩) ((want xs ys q).length + 1) cap3) ((want xs ys q).length + 1) (pf ++ [.string nb, .string vb])) := hown'
      have c50 : w5.cell? ⟨wr.heap.size, 0, none⟩ = some (.string nb) := by
        refine hgrow.cell ?_ (fun h => by have := HOB.out _ h.symm; simp at this)
        rw [World.cell?_alloc_lt _ _ ⟨wr.heap.size, 0, none⟩ (by show wr.heap.size < wc.heap.size; omega)]
        exact HU0.out.1
      have c51 : w5.cell? ⟨wr.heap.size, 1, none⟩ = some (.string vb) := by
        refine hgrow.cell ?_ (fun h => by have := HOB.out _ h.symm; simp at this)
        rw [World.cell?_alloc_lt _ _ ⟨wr.heap.size, 1, none⟩ (by show wr.heap.size < wc.heap.size; omega)]
        exact HU0.out.2
      have HBN : Hid (Below w.heap.size w w5) := (HK3.out.alloc (by omega) _).grown hgrow (by simp; omega) (fun k hk => (HO4.lt k hk).1)
      have hzn : wr.heap.size < w5.heap.size := by
        have := hgrow.size
        simp at this
        omega
      have HC5 : Hid (∀ w1, Below w5.heap.size w5 w1 → w1.cell? ⟨wr.heap.size, 0, none⟩ = some (.string nb) ∧ w1.cell? ⟨wr.heap.size, 1, none⟩ = some (.string vb)) := fun w1 b => ⟨(b.cell (p := ⟨wr.heap.size, 0, none⟩) hzn).trans c50, (b.cell (p := ⟨wr.heap.size, 1, none⟩) hzn).trans c51⟩
      have HB5 : Hid (∀ w1, Below w5.heap.size w5 w1 → Below w.heap.size w w1) := fun w1 b => HBN.out.trans (b.mono HBN.out.size)
      have z38 : (⟨#[38, 38]⟩ : ByteArray).size = 2 := rfl
      have z61 : (⟨#[61]⟩ : ByteArray).size = 1 := rfl
      have g0 : ∀ W : World, (Op.stringOp .add acc ⟨#[38, 38]⟩).run Tryd.prog W = .ok (.string (acc ++ ⟨#[38, 38]⟩)) W := fun W => run_string_add_sum W _ _ (by omega)
      have g1 : ∀ W : World, (Op.stringOp .add (acc ++ ⟨#[38, 38]⟩) e1).run Tryd.prog W = .ok (.string (acc ++ ⟨#[38, 38]⟩ ++ e1)) W := fun W => run_string_add_sum W _ _ (by simp only [ByteArray.size_append]; omega)
      have g2 : ∀ W : World, (Op.stringOp .add (acc ++ ⟨#[38, 38]⟩ ++ e1) ⟨#[61]⟩).run Tryd.prog W = .ok (.string (acc ++ ⟨#[38, 38]⟩ ++ e1 ++ ⟨#[61]⟩)) W := fun W => run_string_add_sum W _ _ (by simp only [ByteArray.size_append]; omega)
      have g3 : ∀ W : World, (Op.stringOp .add (acc ++ ⟨#[38, 38]⟩ ++ e1 ++ ⟨#[61]⟩) e2).run Tryd.prog W = .ok (.string (acc ++ ⟨#[38, 38]⟩ ++ e1 ++ ⟨#[61]⟩ ++ e2)) W := fun W => run_string_add_sum W _ _ (by simp only [ByteArray.size_append]; omega)
      clear hown' hgrow HO4 hat u0 u1
      go_upto_region 10 with fail
      go_region_held3 (fun w' => w'.cell? ⟨wr.heap.size, 0, none⟩ = some (.string nb) ∧ w'.cell? ⟨wr.heap.size, 1, none⟩ = some (.string vb)) (go_keep) (first | (go_at_call_of 6 (Value.string nb); refine Calls.mono (HE1.out _ (by first | exact HB5.out _ (Below.refl _ _) | exact HB5.out _ (same_heap' rfl rfl rfl rfl))) ?_; rintro e w6 ⟨rfl, b6⟩; have HB6 : Hid (Below w5.heap.size w5 w6) := (by first | exact b6 | exact (same_heap' rfl rfl rfl rfl : Below w5.heap.size w5 w5.drew).trans b6); clear b6; obtain ⟨a0', a1'⟩ := HC5.out w6 HB6.out) | (go_at_call_of 6 (Value.string vb); refine Calls.mono (HE2.out _ (HB5.out _ HB6.out)) ?_; rintro e w7 ⟨rfl, b7⟩; have HB7 : Hid (Below w5.heap.size w5 w7) := HB6.out.trans (b7.mono HB6.out.size); clear b7; obtain ⟨a0'', a1''⟩ := HC5.out w7 HB7.out))
      all_goals
        go_wp2
        go_roundw
        case rel =>
          refine ⟨q + 1, by omega, by omega, by go_num, ?_, congrArg Value.string HSUM.out, HB5.out w7 HB7.out⟩
          have h := pown_below HOW5.out HB7.out
          rw [HPF.out] at h
          rw [HWL.out.2]
          exact h
        case measure => (simp [intOf]; try omega)
    · have hcase : (¬ (q : Int) < (xs.length : Int)) ∨ ((q : Int) < (xs.length : Int) ∧ ¬ (q : Int) < 8) := by omega
      have hwl := write_len xs ys q
      have hmem := want_mem xs ys q
      have hsum := sumLen_want xs ys q
      have hlen := want_len xs ys q
      generalize want xs ys q = ps at *
      have HJ : Hid (∀ w1, Below wr.heap.size wr w1 → Calls Tryd.prog 9 #[.slice sp ps.length cap] w1 fun e w' => e = .returned (.tuple #[.string ⟨(tellPairs ps).toArray⟩, .int .i64 0]) ∧ Below w1.heap.size w1 w') := fun w1 b => Tryd.Join_ok ps _ w1 ((own_pairs HOW.out).below b) (fun p hp => ⟨by have := (hmem p hp).1; omega, by have := (hmem p hp).2; omega⟩) (by omega) (by omega) (HEN.out w1 (HB.out.trans (b.mono HB.out.size)))
      have HK : Hid (∀ w1, Below wr.heap.size wr w1 → Calls Tryd.prog 9 #[.slice (some ⟨w1.heap.size, 0, none⟩) 1 1] (w1.alloc (.cells #[.string ⟨#[97, 32, 98]⟩, .string ⟨#[99, 38, 61, 43, 37]⟩] 30)) fun e w' => e = .returned (.tuple #[.string ⟨#[97, 43, 98, 61, 99, 37, 50, 54, 37, 51, 68, 37, 50, 66, 37, 50, 53]⟩, .int .i64 0]) ∧ Below w1.heap.size w1 w') := by
        intro w1 b
        have b2 : Below w1.heap.size w1 (w1.alloc (.cells #[.string ⟨#[97, 32, 98]⟩, .string ⟨#[99, 38, 61, 43, 37]⟩] 30)) := (Below.refl _ _).alloc (Nat.le_refl _) _
        have k : (w1.alloc (.cells #[.string ⟨#[97, 32, 98]⟩, .string ⟨#[99, 38, 61, 43, 37]⟩] 30)).heap[w1.heap.size]? = some (.cells #[.string ⟨#[97, 32, 98]⟩, .string ⟨#[99, 38, 61, 43, 37]⟩] 30 (0, 0)) := heap_alloc_new w1 _
        have hr : PairRow (w1.alloc (.cells #[.string ⟨#[97, 32, 98]⟩, .string ⟨#[99, 38, 61, 43, 37]⟩] 30)) (.slice (some ⟨w1.heap.size, 0, none⟩) 1 1) [([97, 32, 98], [99, 38, 61, 43, 37])] := by
          refine ⟨some ⟨w1.heap.size, 0, none⟩, 1, rfl, by simp, by unfold maxLen; omega, fun j p hj => ?_⟩
          cases j with
          | zero =>
            simp at hj
            subst hj
            refine ⟨w1.heap.size, rfl, by simp, ?_, ?_⟩
            · exact World.cell?_alloc_new w1 #[.string ⟨#[97, 32, 98]⟩, .string ⟨#[99, 38, 61, 43, 37]⟩] 30 0
            · exact World.cell?_alloc_new w1 #[.string ⟨#[97, 32, 98]⟩, .string ⟨#[99, 38, 61, 43, 37]⟩] 30 1
          | succ j => simp at hj
        have h := Tryd.Join_ok [([97, 32, 98], [99, 38, 61, 43, 37])] _ _ hr (by simp) (by simp) (by decide) (HEN.out _ ((HB.out.trans (b.mono HB.out.size)).trans (b2.mono (Nat.le_trans HB.out.size b.size))))
        rw [known_pair] at h
        refine h.mono ?_
        rintro e w' ⟨rfl, hb'⟩
        exact ⟨rfl, b2.trans (hb'.mono b2.size)⟩
      have HP1 : Hid ((tellPairs ps).length ≤ 2000 → ∀ w1, Below wr.heap.size wr w1 → Calls Tryd.prog 10 #[.string ⟨(tellPairs ps).toArray⟩] w1 fun e w' => (∃ v, e = .returned (.tuple #[v, .int .i64 0]) ∧ PairRow w' v ps) ∧ Below w1.heap.size w1 w') := by
        intro hl w1 b
        have h := Tryd.Pairs_ok (tellPairs ps) w1 hl (HEN.out w1 (HB.out.trans (b.mono HB.out.size)))
        rw [read_told] at h
        exact h
      have HP2 : Hid ((writePairs ps).length ≤ 2000 → ∀ w1, Below wr.heap.size wr w1 → Calls Tryd.prog 10 #[.string ⟨(writePairs ps).toArray⟩] w1 fun e w' => (∃ v, e = .returned (.tuple #[v, .int .i64 0]) ∧ PairRow w' v ps) ∧ Below w1.heap.size w1 w') := by
        intro hl w1 b
        have h := Tryd.Pairs_ok (writePairs ps) w1 hl (HEN.out w1 (HB.out.trans (b.mono HB.out.size)))
        rw [read_written] at h
        exact h
      have hse : (⟨(tellPairs ps).toArray⟩ : ByteArray).toList.isEmpty = ps.isEmpty := by
        rw [Lib.toList_data]
        show (tellPairs ps).isEmpty = _
        have h := tellPairs_nil ps
        cases hp : ps with
        | nil => rfl
        | cons a l =>
          rw [hp] at h
          cases ht : tellPairs (a :: l) with
          | nil => exact absurd (h.1 ht) (by simp)
          | cons => rfl
      have hle : ((ps.length : Int) == 0) = ps.isEmpty := by
        cases ps with
        | nil => rfl
        | cons a l => simp; omega
      have HSZ : Hid ((⟨(tellPairs ps).toArray⟩ : ByteArray).size = (tellPairs ps).length ∧ (⟨(writePairs ps).toArray⟩ : ByteArray).size = (writePairs ps).length) := ⟨size_mk _, size_mk _⟩
      have HPR : Hid (∀ w1, Below wr.heap.size wr w1 → PairRow w1 (.slice sp ps.length cap) ps) := fun w1 b => (own_pairs HOW.out).below b
      have hln8 : ps.length ≤ 8 := by omega
      generalize ps.isEmpty = qe at *
      generalize (⟨(tellPairs ps).toArray⟩ : ByteArray) = sb at *
      generalize (⟨(writePairs ps).toArray⟩ : ByteArray) = bb at *
      clear hlt hb hwl hmem hsum hlen HES HR0 HR1 hi hz0 hz1 hz2
      rcases hcase with hc | ⟨hc, hc2⟩
      all_goals
        go_wp2_with fail
        refine Calls.mono (HJ.out wr (Below.refl _ _)) ?_
        rintro e w1 ⟨rfl, b1⟩
        have HB1 : Hid (Below wr.heap.size wr w1) := b1
        clear b1
        go_wp2_with fail
        refine Calls.mono (HK.out w1 HB1.out) ?_
        rintro e w2 ⟨rfl, b2⟩
        have HB2 : Hid (Below wr.heap.size wr w2) := HB1.out.trans (b2.mono HB1.out.size)
        clear b2
        by_cases hz1 : (sb.size : Int) ≤ 2000
        · by_cases hz2 : (bb.size : Int) ≤ 2000
          · have HP1' : Hid _ := HP1.out (by have := HSZ.out.1; omega)
            have HP2' : Hid _ := HP2.out (by have := HSZ.out.2; omega)
            go_wp2_with fail
            refine Calls.mono (HP1'.out w2 HB2.out) ?_
            rintro e w3 ⟨⟨vm, rfl, hm⟩, b3⟩
            have HB3 : Hid (Below wr.heap.size wr w3) := HB2.out.trans (b3.mono HB2.out.size)
            have HM3 : Hid (PairRow w3 vm ps) := hm
            obtain ⟨spm, capm, hvm, _⟩ := hm
            subst hvm
            clear b3
            go_wp2_with fail
            refine Calls.mono (HP2'.out w3 HB3.out) ?_
            rintro e w4 ⟨⟨vo, rfl, ho⟩, b4⟩
            have HB4 : Hid (Below wr.heap.size wr w4) := HB3.out.trans (b4.mono HB3.out.size)
            have HO4 : Hid (PairRow w4 vo ps) := ho
            have HM4 : Hid (PairRow w4 (.slice spm ps.length capm) ps) := HM3.out.below b4
            have HL4 : Hid (PairRow w4 (.slice sp ps.length cap) ps) := HPR.out w4 HB4.out
            obtain ⟨spo, capo, hvo, _⟩ := ho
            subst hvo
            clear b4 hse hle HP1' HP2' HP1 HP2 HJ HK HSZ hz1 hz2
            go_wp2_with fail
            go_loopw [17] (fun i wx => ∃ j : Nat, j ≤ ps.length ∧ i = .int .i64 j ∧ Below w4.heap.size w4 wx) (fun i _ => ps.length - (intOf i).toNat)
            case atStart => exact ⟨0, Nat.zero_le _, rfl, Below.refl _ _⟩
            case round =>
              obtain ⟨j, hj, rfl, hbx⟩ := hrel
              have HBX : Hid (Below w4.heap.size w4 wr) := hbx
              by_cases hjl : j < ps.length
              · obtain ⟨p, hp⟩ : ∃ p, ps[j]? = some p := ⟨ps[j], List.getElem?_eq_getElem hjl⟩
                obtain ⟨gl, hgl, l0, l1⟩ := (HL4.out.below hbx).get hp
                obtain ⟨gm, hgm, m0, m1⟩ := (HM4.out.below hbx).get hp
                obtain ⟨go, hgo, o0, o1⟩ := (HO4.out.below hbx).get hp
                subst hgl hgm hgo
                have hji : (j : Int) < (ps.length : Int) := by omega
                have hj0 : (0 : Int) ≤ (j : Int) := by omega
                generalize (⟨p.1.toArray⟩ : ByteArray) = n1 at *
                generalize (⟨p.2.toArray⟩ : ByteArray) = n2 at *
                clear hp hbx
                go_wp2_with fail
                go_region_held3 (fun w' => w'.cell? ⟨gl, j * 2, none⟩ = some (.string n1) ∧ w'.cell? ⟨gl, j * 2 + 1, none⟩ = some (.string n2) ∧ w'.cell? ⟨gm, j * 2, none⟩ = some (.string n1) ∧ w'.cell? ⟨gm, j * 2 + 1, none⟩ = some (.string n2) ∧ w'.cell? ⟨go, j * 2, none⟩ = some (.string n1) ∧ w'.cell? ⟨go, j * 2 + 1, none⟩ = some (.string n2)) (go_keep) (first | fail)
                all_goals
                  go_wp2
                  go_roundw
                  case rel => exact ⟨j + 1, by omega, by go_num, HBX.out.trans (same_heap' rfl rfl rfl rfl)⟩
                  case measure => (simp [intOf]; try omega)
              · have hji : ¬ (j : Int) < (ps.length : Int) := by omega
                clear hbx
                go_wp2_with fail
                go_ret
                exact ⟨rfl, (HB.out.trans (HB4.out.mono HB.out.size)).trans (HBX.out.mono (Nat.le_trans HB.out.size HB4.out.size))⟩
          · clear HP1 HP2 HJ HK
            go_wp2_with fail
            go_ret
            exact ⟨rfl, HB.out.trans (HB2.out.mono HB.out.size)⟩
        · clear HP1 HP2 HJ HK
          go_wp2_with fail
          go_ret
          exact ⟨rfl, HB.out.trans (HB2.out.mono HB.out.size)⟩
end Go.Proofs
