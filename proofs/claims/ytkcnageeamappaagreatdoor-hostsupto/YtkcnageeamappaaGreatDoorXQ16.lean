import Derived.Test.YtkcnageeamappaaGreatDoorXQ15
namespace Go.Proofs
open Go.RowKit Go.Moor
structure OpV where
  kind : Int
  n : Int
  flag : Bool
  S : ByteArray
  T : ByteArray
  lv : Value
instance : Inhabited OpV := ⟨⟨0, 0, false, ⟨#[]⟩, ⟨#[]⟩, .slice none 0 0⟩⟩
def OpRow (w : World) (sp : Option Go.Addr) (os : List OpV) : Prop := ∀ (j : Nat) o, os[j]? = some o → ∃ g off, sp = some ⟨g, off, none⟩ ∧ g < w.heap.size ∧ w.cell? ⟨g, off + j * 6, none⟩ = some (.int .i64 o.kind) ∧ w.cell? ⟨g, off + j * 6 + 1, none⟩ = some (.int .i64 o.n) ∧ w.cell? ⟨g, off + j * 6 + 2, none⟩ = some (.bool o.flag) ∧ w.cell? ⟨g, off + j * 6 + 3, none⟩ = some (.string o.S) ∧ w.cell? ⟨g, off + j * 6 + 4, none⟩ = some (.string o.T) ∧ w.cell? ⟨g, off + j * 6 + 5, none⟩ = some o.lv
theorem OpRow.below {w w' : World} {sp : Option Go.Addr} {os : List OpV} (h : OpRow w sp os) (hb : Below w.heap.size w w') : OpRow w' sp os := by
  intro j o hj
  obtain ⟨g, off, h1, h2, c0, c1, c2, c3, c4, c5⟩ := h j o hj
  exact ⟨g, off, h1, Nat.lt_of_lt_of_le h2 hb.size, (hb.cell (by exact h2)).trans c0, (hb.cell (by exact h2)).trans c1, (hb.cell (by exact h2)).trans c2, (hb.cell (by exact h2)).trans c3, (hb.cell (by exact h2)).trans c4, (hb.cell (by exact h2)).trans c5⟩
set_option maxHeartbeats 8000000 in
set_option maxRecDepth 8000 in
theorem Tryz.plays_hosts (sp : Option Go.Addr) (cap : Nat) (os : List OpV) (w : World) (hr : OpRow w sp os) (hl : os.length ≤ 2097152) (hS : ∀ o ∈ os, o.S.size ≤ 2097152) (henv : Tryz.Env w) (htz : Tryz.Tz w) :
    Calls Tryz.prog 13 #[.slice sp os.length cap, .int .i64 3] w fun e w' => e = .returned (.bool true) ∧ Below w.heap.size w w' := by
  obtain ⟨W, hW⟩ : ∃ W, W = w.alloc (.cells #[.slice none 0 0] 56) := ⟨_, rfl⟩
  have hBW : Below w.heap.size w W := by rw [hW]; exact (Below.refl _ _).alloc (Nat.le_refl _) _
  have hz : W.heap[w.heap.size]? = some (.cells #[.slice none 0 0] 56 (0, 0)) := by rw [hW]; exact heap_alloc_new w _
  have hzs : w.heap.size < W.heap.size := (Array.getElem?_eq_some_iff.1 hz).1
  have HBW : Hid (∀ w1, Below W.heap.size W w1 → Below w.heap.size w w1) := fun w1 b1 => hBW.trans (b1.mono hBW.size)
  have hEW : Tryz.Env W := henv.below hBW
  have hTW : Tryz.Tz W := Tryz.tz_below htz hBW henv.size
  have HST : Hid (∀ (b : Value) (kind n : Int) (flag : Bool) (S T : ByteArray) (lv : Value) w1, kind ≤ 3 → S.size ≤ 2097152 → Below W.heap.size W w1 → Calls Tryz.prog 29 #[b, .agg #[.int .i64 kind, .int .i64 n, .bool flag, .string S, .string T, lv]] w1 fun e w' => e = .returned (.bool true) ∧ Below w1.heap.size w1 w') :=
    fun b kind n flag S T lv w1 hk hS b1 => Tryz.step_hosts b kind n flag S T lv w1 hk hS (hEW.below b1) (Tryz.tz_below hTW b1 hEW.size)
  have HLO : Hid (∀ w1, Below W.heap.size W w1 → Calls Tryz.prog 30 #[.pointer (some ⟨w.heap.size, 0, none⟩)] w1 fun e w' => e = .returned (.bool true) ∧ w' = w1) := by
    intro w1 b1
    refine Tryz.looks_none w.heap.size w1 ?_
    have k := (b1.block w.heap.size hzs).trans hz
    unfold World.cell?
    simp [k]
  have HRW : Hid (∀ w1, Below W.heap.size W w1 → OpRow w1 sp os) := fun w1 b1 => hr.below (HBW.out w1 b1)
  have HSS : Hid (∀ o ∈ os, o.S.size ≤ 2097152) := hS
  have HZ : Hid (W = w.alloc (.cells #[.slice none 0 0] 56)) := hW
  clear hEW hTW hBW hz hzs henv htz hS hW hr
  go_enter Tryz.func13, Tryz.ntmps13
  go_upto_region 2 with fail
  rw [← HZ.out]
  go_wp2_with fail
  refine Calls.mono (HST.out _ 3 0 true ⟨#[48, 120, 55, 70, 46, 49]⟩ ⟨#[]⟩ (.slice none 0 0) W (by omega) (by decide) (Below.refl _ _)) ?_
  rintro e w1 ⟨rfl, b1⟩
  have HB1 : Hid (Below W.heap.size W w1) := b1
  clear b1
  go_wp2_with fail
  refine Calls.mono (HST.out _ 1 1 false ⟨#[97, 32, 98]⟩ ⟨#[]⟩ (.slice none 0 0) w1 (by omega) (by decide) HB1.out) ?_
  rintro e w2 ⟨rfl, b2⟩
  have HB2 : Hid (Below W.heap.size W w2) := HB1.out.trans (b2.mono HB1.out.size)
  clear b2
  go_wp2_with fail
  go_loopw [8, 9] (fun o i wr => ∃ q : Nat, q ≤ os.length ∧ i = .int .i64 (q : Nat) ∧ o = .bool true ∧ Below W.heap.size W wr) (fun _ i _ => os.length - (intOf i).toNat)
  case atStart => exact ⟨0, Nat.zero_le _, rfl, rfl, HB2.out⟩
  case round =>
    obtain ⟨q, hq, rfl, rfl, hb⟩ := hrel
    have HB : Hid (Below W.heap.size W wr) := hb
    by_cases hlt : q < os.length
    · obtain ⟨o, ho⟩ : ∃ o, os[q]? = some o := ⟨os[q], List.getElem?_eq_getElem hlt⟩
      obtain ⟨g, off, hsp, hg, c0, c1, c2, c3, c4, c5⟩ := HRW.out wr hb q o ho
      subst hsp
      have hSz := HSS.out o (List.mem_of_getElem? ho)
      obtain ⟨kind, n, flag, S, T, lv⟩ := o
      simp only at c0 c1 c2 c3 c4 c5 hSz
      clear ho hb hg
      by_cases hk : kind ≤ 3
      · have hki : ¬ (3 : Int) < kind := by omega
        go_wp2_with fail
        refine Calls.mono (HST.out _ kind n flag S T lv wr hk hSz HB.out) ?_
        rintro e w3 ⟨rfl, b3⟩
        have HB3 : Hid (Below W.heap.size W w3) := HB.out.trans (b3.mono HB.out.size)
        clear b3 c0 c1 c2 c3 c4 c5
        go_wp2_with fail
        refine Calls.mono (HLO.out w3 HB3.out) ?_
        rintro e W0 ⟨rfl, hw0⟩
        have hw0 := hw0.symm
        subst hw0
        go_wp2
        go_roundw
        case rel => exact ⟨q + 1, by omega, by go_num, rfl, HB3.out⟩
        case measure => (simp [intOf]; try omega)
      · have hki : (3 : Int) < kind := by omega
        go_wp2
        go_roundw
        case rel => exact ⟨q + 1, by omega, by go_num, rfl, HB.out⟩
        case measure => (simp [intOf]; try omega)
    · clear hb
      go_wp2
      go_ret
      exact ⟨rfl, HBW.out _ HB.out⟩
set_option maxHeartbeats 1000000 in
theorem Tryz.Hosts_any (sp : Option Go.Addr) (cap : Nat) (os : List OpV) (w : World) (hr : OpRow w sp os) (hl : os.length ≤ 2097152) (hS : ∀ o ∈ os, o.S.size ≤ 2097152) (henv : Tryz.Env w) (htz : Tryz.Tz w) :
    Calls Tryz.prog 3 #[.slice sp os.length cap] w fun e w' => e = .returned (.bool true) ∧ Below w.heap.size w w' := by
  have H : Hid _ := Tryz.plays_hosts sp cap os w hr hl hS henv htz
  clear hr hS henv htz
  go_enter Tryz.func3, Tryz.ntmps3
  go_wp2_with fail
  refine Calls.mono H.out ?_
  rintro e w1 ⟨rfl, b1⟩
  have HB1 : Hid (Below w.heap.size w w1) := b1
  clear b1
  go_wp2
  go_ret
  exact ⟨rfl, HB1.out⟩
end Go.Proofs
