import Derived.Test.YtkcnageeamappaaGreatDoorXQ14
namespace Go.Proofs
open Go.RowKit Go.Moor
set_option maxHeartbeats 4000000 in
set_option maxRecDepth 4000 in
theorem Tryz.lhost_any (s : ByteArray) (sp : Bool) (w : World) (hs : s.size ≤ 2097152) (henv : Tryz.Env w) (htz : Tryz.Tz w) :
    Calls Tryz.prog 43 #[.string s, .bool sp] w fun e w' => e = .returned (.bool true) ∧ Below w.heap.size w w' := by
  by_cases hl : 2000 < s.size
  · have HH : Hid (Calls Tryz.prog 18 #[.string s, .bool sp] w fun e w' => e = .returned (.tuple #[.string ⟨#[]⟩, .int .i64 1]) ∧ w' = w) := Tryz.Host_long s sp w hl (by unfold maxLen; omega)
    have hli : (2000 : Int) < (s.size : Int) := by omega
    clear henv htz
    go_enter Tryz.func43, Tryz.ntmps43
    go_wp2_with fail
    refine Calls.mono HH.out ?_
    rintro e W0 ⟨rfl, hw0⟩
    have hw0 := hw0.symm
    subst hw0
    go_wp2
    go_ret
    exact ⟨rfl, Below.refl _ _⟩
  · have HH : Hid (Calls Tryz.prog 18 #[.string s, .bool sp] w fun e w' => e = HostRes (hostTell s.data.toList sp) ∧ Below w.heap.size w w') := Tryz.Host_any s sp w (by omega) henv htz
    have HR : Hid (∀ w1, Calls Tryz.prog 67 #[.string s, .bool sp] w1 fun e w' => RHostRes (hostTell s.data.toList sp) e ∧ Below w1.heap.size w1 w') := fun w1 => Tryz.rHost_any s sp w1 (by omega)
    have hli : ¬ (2000 : Int) < (s.size : Int) := by omega
    clear henv htz hl
    cases ho : hostTell s.data.toList sp with
    | none =>
      rw [ho] at HH HR
      clear ho
      go_enter Tryz.func43, Tryz.ntmps43
      go_wp2_with fail
      refine Calls.mono HH.out ?_
      rintro e w1 ⟨he, b1⟩
      have he : e = .returned (.tuple #[.string ⟨#[]⟩, .int .i64 4]) := he
      subst he
      have HB1 : Hid (Below w.heap.size w w1) := b1
      clear b1
      go_wp2_with fail
      refine Calls.mono (HR.out w1) ?_
      rintro e w2 ⟨⟨x, rfl⟩, b2⟩
      have HB2 : Hid (Below w.heap.size w w2) := HB1.out.trans (b2.mono HB1.out.size)
      clear b2
      go_wp2
      go_ret
      exact ⟨rfl, HB2.out⟩
    | some t =>
      rw [ho] at HH HR
      clear ho
      obtain ⟨tb, htb⟩ : ∃ tb : ByteArray, tb = ⟨t.toArray⟩ := ⟨_, rfl⟩
      have hself : (tb.toList == tb.toList) = true := by simp
      have HTB : Hid (tb = ⟨t.toArray⟩) := htb
      clear htb
      go_enter Tryz.func43, Tryz.ntmps43
      go_wp2_with fail
      refine Calls.mono HH.out ?_
      rintro e w1 ⟨he, b1⟩
      have he : e = .returned (.tuple #[.string ⟨t.toArray⟩, .int .i64 0]) := he
      rw [← HTB.out] at he
      subst he
      have HB1 : Hid (Below w.heap.size w w1) := b1
      clear b1
      go_wp2_with fail
      refine Calls.mono (HR.out w1) ?_
      rintro e w2 ⟨he, b2⟩
      have he : e = .returned (.tuple #[.string ⟨t.toArray⟩, .bool true]) := he
      rw [← HTB.out] at he
      subst he
      have HB2 : Hid (Below w.heap.size w w2) := HB1.out.trans (b2.mono HB1.out.size)
      clear b2
      go_wp2
      go_ret
      exact ⟨rfl, HB2.out⟩
theorem Tryz.tz_below {w w' : World} (h : Tryz.Tz w) (hb : Below w.heap.size w w') (hz : 29 ≤ w.heap.size) : Tryz.Tz w' := by
  first | exact h.below hb hz | exact h.below hb
set_option maxHeartbeats 8000000 in
set_option maxRecDepth 8000 in
theorem Tryz.step_hosts (b : Value) (kind n : Int) (flag : Bool) (S T : ByteArray) (lv : Value) (w : World) (hk : kind ≤ 3) (hS : S.size ≤ 2097152) (henv : Tryz.Env w) (htz : Tryz.Tz w) :
    Calls Tryz.prog 29 #[b, .agg #[.int .i64 kind, .int .i64 n, .bool flag, .string S, .string T, lv]] w fun e w' => e = .returned (.bool true) ∧ Below w.heap.size w w' := by
  obtain ⟨W, hW⟩ : ∃ W, W = w.alloc (.cells #[.int .i64 kind, .int .i64 n, .bool flag, .string S, .string T, lv] 60) := ⟨_, rfl⟩
  have hBW : Below w.heap.size w W := by rw [hW]; exact (Below.refl _ _).alloc (Nat.le_refl _) _
  have HBW : Hid (∀ w1, Below W.heap.size W w1 → Below w.heap.size w w1) := fun w1 b1 => hBW.trans (b1.mono hBW.size)
  have hEW : Tryz.Env W := henv.below hBW
  have hTW : Tryz.Tz W := Tryz.tz_below htz hBW henv.size
  have hz : W.heap[w.heap.size]? = some (.cells #[.int .i64 kind, .int .i64 n, .bool flag, .string S, .string T, lv] 60 (0, 0)) := by rw [hW]; exact heap_alloc_new w _
  have hzs : w.heap.size < W.heap.size := (Array.getElem?_eq_some_iff.1 hz).1
  have HC : Hid (∀ w1, Below W.heap.size W w1 → w1.cell? ⟨w.heap.size, 0, none⟩ = some (.int .i64 kind) ∧ w1.cell? ⟨w.heap.size, 1, none⟩ = some (.int .i64 n) ∧ w1.cell? ⟨w.heap.size, 2, none⟩ = some (.bool flag) ∧ w1.cell? ⟨w.heap.size, 3, none⟩ = some (.string S)) := by
    intro w1 b1
    have k := (b1.block w.heap.size hzs).trans hz
    unfold World.cell?
    simp [k]
  have HZ : Hid (W = w.alloc (.cells #[.int .i64 kind, .int .i64 n, .bool flag, .string S, .string T, lv] 60)) := hW
  have HE1 : Hid (∀ w1, Below W.heap.size W w1 → Calls Tryz.prog 39 #[.string S, .int .i64 n] w1 fun e w' => e = .returned (.string ⟨(esc n S.data.toList).toArray⟩) ∧ Below w1.heap.size w1 w') := fun w1 b1 => Tryz.escape_any S n w1 (by omega) (hEW.below b1).sets (by have := (hEW.below b1).size; omega)
  have HE2 : Hid (∀ w1, Calls Tryz.prog 40 #[.string S, .int .i64 n] w1 fun e w' => e = .returned (.string ⟨(esc n S.data.toList).toArray⟩) ∧ Below w1.heap.size w1 w') := fun w1 => Tryz.rEscape_any S n w1 (by omega)
  have HU1 : Hid (∀ w1, Below W.heap.size W w1 → Calls Tryz.prog 41 #[.string S] w1 fun e w' => e = .returned (.string ⟨(unesc S.data.toList).toArray⟩) ∧ Below w1.heap.size w1 w') := fun w1 b1 => by
    obtain ⟨m, hm⟩ := (hEW.below b1).maxLen
    exact Tryz.unescape_any S m w1 (by omega) hm (by have := (hEW.below b1).size; omega)
  have HU2 : Hid (∀ w1, Calls Tryz.prog 42 #[.string S] w1 fun e w' => e = .returned (.string ⟨(unesc S.data.toList).toArray⟩) ∧ Below w1.heap.size w1 w') := fun w1 => Tryz.rUnescape_any S w1 (by omega)
  have HH1 : Hid (Calls Tryz.prog 43 #[.string S, .bool flag] W fun e w' => e = .returned (.bool true) ∧ Below W.heap.size W w') := Tryz.lhost_any S flag W hS hEW hTW
  clear hEW hTW hBW hz hzs henv htz hS
  have hWr : Hid (Below W.heap.size W W) := Below.refl _ _
  obtain ⟨c0, c1, c2, c3⟩ := HC.out W hWr.out
  by_cases h1 : kind = 1
  · subst h1
    obtain ⟨tb, htb⟩ : ∃ tb : ByteArray, tb = ⟨(esc n S.data.toList).toArray⟩ := ⟨_, rfl⟩
    rw [← htb] at HE1 HE2
    have hself : (tb.toList == tb.toList) = true := by simp
    clear htb hW
    go_enter Tryz.func29, Tryz.ntmps29
    go_upto_region 1 with fail
    rw [← HZ.out]
    go_wp2_with fail
    refine Calls.mono (HE1.out W hWr.out) ?_
    rintro e w1 ⟨rfl, b1⟩
    have HB1 : Hid (Below W.heap.size W w1) := b1
    obtain ⟨d0, d1, d2, d3⟩ := HC.out w1 b1
    clear b1 c0 c1 c2 c3
    go_wp2_with fail
    refine Calls.mono (HE2.out w1) ?_
    rintro e w2 ⟨rfl, b2⟩
    have HB2 : Hid (Below W.heap.size W w2) := HB1.out.trans (b2.mono HB1.out.size)
    clear b2
    go_wp2
    go_ret
    exact ⟨rfl, HBW.out _ HB2.out⟩
  have e1 : (kind == 1) = false := by rw [beq_eq_false_iff_ne]; exact h1
  by_cases h2 : kind = 2
  · subst h2
    obtain ⟨tb, htb⟩ : ∃ tb : ByteArray, tb = ⟨(unesc S.data.toList).toArray⟩ := ⟨_, rfl⟩
    rw [← htb] at HU1 HU2
    have hself : (tb.toList == tb.toList) = true := by simp
    clear htb hW
    go_enter Tryz.func29, Tryz.ntmps29
    go_upto_region 1 with fail
    rw [← HZ.out]
    go_wp2_with fail
    refine Calls.mono (HU1.out W hWr.out) ?_
    rintro e w1 ⟨rfl, b1⟩
    have HB1 : Hid (Below W.heap.size W w1) := b1
    obtain ⟨d0, d1, d2, d3⟩ := HC.out w1 b1
    clear b1 c0 c1 c2 c3
    go_wp2_with fail
    refine Calls.mono (HU2.out w1) ?_
    rintro e w2 ⟨rfl, b2⟩
    have HB2 : Hid (Below W.heap.size W w2) := HB1.out.trans (b2.mono HB1.out.size)
    clear b2
    go_wp2
    go_ret
    exact ⟨rfl, HBW.out _ HB2.out⟩
  have e2 : (kind == 2) = false := by rw [beq_eq_false_iff_ne]; exact h2
  by_cases h3 : kind = 3
  · subst h3
    clear hW
    go_enter Tryz.func29, Tryz.ntmps29
    go_upto_region 1 with fail
    rw [← HZ.out]
    go_wp2_with fail
    refine Calls.mono HH1.out ?_
    rintro e w1 ⟨rfl, b1⟩
    have HB1 : Hid (Below W.heap.size W w1) := b1
    clear b1
    go_wp2
    go_ret
    exact ⟨rfl, HBW.out _ HB1.out⟩
  have e3 : (kind == 3) = false := by rw [beq_eq_false_iff_ne]; exact h3
  have e4 : (kind == 4) = false := by rw [beq_eq_false_iff_ne]; omega
  have e5 : (kind == 5) = false := by rw [beq_eq_false_iff_ne]; omega
  have e6 : (kind == 6) = false := by rw [beq_eq_false_iff_ne]; omega
  have e7 : (kind == 7) = false := by rw [beq_eq_false_iff_ne]; omega
  have e8 : (kind == 8) = false := by rw [beq_eq_false_iff_ne]; omega
  have e9 : (kind == 9) = false := by rw [beq_eq_false_iff_ne]; omega
  clear hW h1 h2 h3 hk
  go_enter Tryz.func29, Tryz.ntmps29
  go_upto_region 1 with fail
  rw [← HZ.out]
  go_wp2
  go_ret
  exact ⟨rfl, HBW.out _ hWr.out⟩
set_option maxHeartbeats 1000000 in
theorem Tryz.looks_none (g : Nat) (w : World) (hc : w.cell? ⟨g, 0, none⟩ = some (.slice none 0 0)) :
    Calls Tryz.prog 30 #[.pointer (some ⟨g, 0, none⟩)] w fun e w' => e = .returned (.bool true) ∧ w' = w := by
  go_enter Tryz.func30, Tryz.ntmps30
  go_wp2_with fail
  go_loopw [3] (fun i wr => i = .int .i64 0 ∧ wr = w) (fun _ _ => 0)
  case atStart => exact ⟨rfl, rfl⟩
  case round =>
    obtain ⟨rfl, hwr⟩ := hrel
    have hwr := hwr.symm
    subst hwr
    go_wp2
    go_ret
    exact ⟨rfl, rfl⟩
end Go.Proofs
