/-
  What evenSlashes, cutAtSlash, withoutBreaks, isFragmentAlone and escaped of package address answer.
-/
import Derived.Test.YtkcnageeamappaaGreatDoorJATrim
namespace Go.Proofs
open Go.RowKit Go.Moor

theorem countB_le (s old : ByteArray) : Lib.countB s old ≤ s.size + 1 := by
  unfold Lib.countB Lib.count
  have hle : ∀ (f : Nat) (x : List UInt8), Lib.countFrom old.data.toList f x ≤ f := by
    intro f
    induction f with
    | zero => intro x; exact Nat.le_refl _
    | succ f ih =>
      intro x
      rw [Lib.countFrom]
      split
      · omega
      · have := ih (List.drop ((Lib.index x old.data.toList).toNat + old.data.toList.length) x)
        omega
  rw [Lib.size_eq]
  exact hle _ _

set_option maxHeartbeats 1000000 in
theorem Tryz.evenSlashes_any (sc s : ByteArray) (w : World) (hs : s.size < 4294967281) (henv : Tryz.Env w) :
    Calls Tryz.prog 164 #[.string sc, .string s] w fun e w' => e = .returned (.string ⟨(evenSlashes sc.data.toList s.data.toList).toArray⟩) ∧ Below w.heap.size w w' := by
  obtain ⟨m, hm⟩ := henv.maxLen
  have hcn := countB_le s ⟨#[92]⟩
  have HR : Hid (Calls Tryz.prog 107 #[.string s, .string ⟨#[92]⟩, .string ⟨#[47]⟩] w fun e w' => e = .returned (.string ⟨(Lib.replaceAll s.data.toList [92] [47]).toArray⟩) ∧ Below w.heap.size w w') := Tryz.strings_ReplaceAll s ⟨#[92]⟩ ⟨#[47]⟩ m w hs hm (by decide) (by show _ + _ * 1 ≤ _; omega)
  have HS : Hid (Calls Tryz.prog 126 #[.string sc] w fun e w' => e = .returned (.bool (special sc.data.toList)) ∧ w' = w) := Tryz.isSpecial_any sc w
  clear hm hcn
  cases hsp : special sc.data.toList with
  | true =>
    have HE : Hid (evenSlashes sc.data.toList s.data.toList = Lib.replaceAll s.data.toList [92] [47]) := by
      show _ = _
      unfold evenSlashes
      rw [if_pos hsp, replaceAll_one, swap_map]
    rw [hsp] at HS
    clear hsp
    go_enter Tryz.func164, Tryz.ntmps164
    go_wp2_with fail
    refine HS.out.mono ?_
    rintro e w' ⟨rfl, hw0⟩
    have hw0 := hw0.symm
    subst hw0
    go_wp2_with fail
    refine HR.out.mono ?_
    rintro e w2 ⟨rfl, b2⟩
    go_wp2
    go_ret
    rw [HE.out]
    exact ⟨rfl, b2⟩
  | false =>
    have HE : Hid (evenSlashes sc.data.toList s.data.toList = s.data.toList) := by
      show _ = _
      unfold evenSlashes
      rw [if_neg (by simp [hsp])]
    rw [hsp] at HS
    clear hsp
    go_enter Tryz.func164, Tryz.ntmps164
    go_wp2_with fail
    refine HS.out.mono ?_
    rintro e w' ⟨rfl, hw0⟩
    have hw0 := hw0.symm
    subst hw0
    go_wp2
    go_ret
    rw [HE.out]
    exact ⟨rfl, Below.refl _ _⟩

-- withoutBreaks
theorem brk_len (c : UInt8) (l : Bs) : (l.flatMap (swapB c [])).length ≤ l.length := by
  rw [swap_drop]
  exact List.length_filter_le _ _
set_option maxHeartbeats 1000000 in
theorem Tryz.drop_byte (c : UInt8) (l : Bs) (w : World) (hs : l.length < 4294967281) (henv : Tryz.Env w) :
    Calls Tryz.prog 107 #[.string ⟨l.toArray⟩, .string ⟨#[c]⟩, .string ⟨#[]⟩] w fun e w' => e = .returned (.string ⟨(l.filter (· ≠ c)).toArray⟩) ∧ Below w.heap.size w w' := by
  obtain ⟨m, hm⟩ := henv.maxLen
  refine (Tryz.strings_ReplaceAll ⟨l.toArray⟩ ⟨#[c]⟩ ⟨#[]⟩ m w (by rw [size_mk]; exact hs) hm (by show 1 ≤ 1; omega) (by rw [size_mk]; show _ + _ * 0 ≤ _; omega)).mono ?_
  rintro e w' ⟨rfl, hb⟩
  refine ⟨?_, hb⟩
  have e1 : Lib.replaceAll (⟨l.toArray⟩ : ByteArray).data.toList (⟨#[c]⟩ : ByteArray).data.toList (⟨#[]⟩ : ByteArray).data.toList = l.filter (· ≠ c) := by
    show Lib.replaceAll l [c] [] = _
    rw [replaceAll_one, swap_drop]
  rw [e1]
theorem Tryz.brk0 (W : World) : Sem.run Tryz.prog (Instr.index 149 (.agg #[.string ⟨#[9]⟩, .string ⟨#[10]⟩, .string ⟨#[13]⟩]) (.int .i64 0)) W = .ok (.string ⟨#[9]⟩) W := by kernel_rfl
theorem Tryz.brk1 (W : World) : Sem.run Tryz.prog (Instr.index 149 (.agg #[.string ⟨#[9]⟩, .string ⟨#[10]⟩, .string ⟨#[13]⟩]) (.int .i64 1)) W = .ok (.string ⟨#[10]⟩) W := by kernel_rfl
theorem Tryz.brk2 (W : World) : Sem.run Tryz.prog (Instr.index 149 (.agg #[.string ⟨#[9]⟩, .string ⟨#[10]⟩, .string ⟨#[13]⟩]) (.int .i64 2)) W = .ok (.string ⟨#[13]⟩) W := by kernel_rfl
set_option maxHeartbeats 2000000 in
set_option maxRecDepth 100000 in
theorem Tryz.withoutBreaks_any (l : Bs) (w : World) (hs : l.length < 4294967281) (henv : Tryz.Env w) :
    Calls Tryz.prog 61 #[.string ⟨l.toArray⟩] w fun e w' => e = .returned (.string ⟨(l.filter fun c => !breakB c).toArray⟩) ∧ Below w.heap.size w w' := by
  have HV : Hid (Tryz.Env w) := henv
  clear henv
  have h1 : (l.filter (· ≠ (9 : UInt8))).length ≤ l.length := List.length_filter_le _ _
  have h2 : ((l.filter (· ≠ (9 : UInt8))).filter (· ≠ (10 : UInt8))).length ≤ (l.filter (· ≠ (9 : UInt8))).length := List.length_filter_le _ _
  have HE : Hid (((l.filter (· ≠ (9 : UInt8))).filter (· ≠ (10 : UInt8))).filter (· ≠ (13 : UInt8)) = l.filter fun c => !breakB c) := breaks_filter l
  generalize hl1 : l.filter (· ≠ (9 : UInt8)) = l1 at *
  generalize hl2 : l1.filter (· ≠ (10 : UInt8)) = l2 at *
  generalize hl3 : l2.filter (· ≠ (13 : UInt8)) = l3 at *
  have HC1 : Hid (∀ W, Tryz.Env W → Calls Tryz.prog 107 #[.string ⟨l.toArray⟩, .string ⟨#[9]⟩, .string ⟨#[]⟩] W fun e w' => e = .returned (.string ⟨l1.toArray⟩) ∧ Below W.heap.size W w') := by
    intro W hv
    rw [← hl1]
    exact Tryz.drop_byte 9 l W hs hv
  have HC2 : Hid (∀ W, Tryz.Env W → Calls Tryz.prog 107 #[.string ⟨l1.toArray⟩, .string ⟨#[10]⟩, .string ⟨#[]⟩] W fun e w' => e = .returned (.string ⟨l2.toArray⟩) ∧ Below W.heap.size W w') := by
    intro W hv
    rw [← hl2]
    exact Tryz.drop_byte 10 l1 W (by omega) hv
  have HC3 : Hid (∀ W, Tryz.Env W → Calls Tryz.prog 107 #[.string ⟨l2.toArray⟩, .string ⟨#[13]⟩, .string ⟨#[]⟩] W fun e w' => e = .returned (.string ⟨l3.toArray⟩) ∧ Below W.heap.size W w') := by
    intro W hv
    rw [← hl3]
    exact Tryz.drop_byte 13 l2 W (by omega) hv
  clear hl1 hl2 hl3 h1 h2 hs
  have i0 := Tryz.brk0
  have i1 := Tryz.brk1
  have i2 := Tryz.brk2
  go_enter Tryz.func61, Tryz.ntmps61
  go_wp2_with fail
  go_loopw [0, 6] (fun s i wr => ∃ q : Nat, q ≤ 3 ∧ i = .int .i64 q ∧ s = .string ⟨((([l, l1, l2, l3] : List Bs)[q]?).getD []).toArray⟩ ∧ Below w.heap.size w wr) (fun _ i _ => 3 - (intOf i).toNat)
  case atStart => exact ⟨0, by omega, rfl, rfl, Below.refl _ _⟩
  case round =>
    obtain ⟨q, hq, rfl, rfl, hb⟩ := hrel
    have HB : Hid (Below w.heap.size w wr) := hb
    have HVW : Hid (Tryz.Env wr) := HV.out.below hb
    clear hb
    have hq4 : q = 0 ∨ q = 1 ∨ q = 2 ∨ q = 3 := by omega
    clear hq
    rcases hq4 with rfl | rfl | rfl | rfl
    · go_wp2_with fail
      refine (HC1.out _ HVW.out).mono ?_
      rintro e w1 ⟨rfl, b1⟩
      go_wp2
      go_roundw
      case rel => exact ⟨1, by omega, rfl, rfl, HB.out.trans (b1.mono HB.out.size)⟩
      case measure => (simp [intOf])
    · go_wp2_with fail
      refine (HC2.out _ HVW.out).mono ?_
      rintro e w1 ⟨rfl, b1⟩
      go_wp2
      go_roundw
      case rel => exact ⟨2, by omega, rfl, rfl, HB.out.trans (b1.mono HB.out.size)⟩
      case measure => (simp [intOf])
    · go_wp2_with fail
      refine (HC3.out _ HVW.out).mono ?_
      rintro e w1 ⟨rfl, b1⟩
      go_wp2
      go_roundw
      case rel => exact ⟨3, by omega, rfl, rfl, HB.out.trans (b1.mono HB.out.size)⟩
      case measure => (simp [intOf])
    · go_wp2
      go_ret
      rw [← HE.out]
      exact ⟨rfl, HB.out⟩
end Go.Proofs
/-
  What cutAtSlash, isFragmentAlone and escaped of package address answer.
-/
namespace Go.Proofs
open Go.RowKit Go.Moor

theorem slash_split (l : Bs) : (Lib.indexByte l 47 = -1 ∧ cutSlash l = (l, [])) ∨ ∃ p r : Bs, l = p ++ 47 :: r ∧ Lib.indexByte l 47 = p.length ∧ cutSlash l = (p, 47 :: r) := by
  rcases indexByte_split 47 l with ⟨h1, h2⟩ | ⟨p, r, hl, h2, h3⟩
  · left
    refine ⟨h1, ?_⟩
    unfold cutSlash
    have e1 := List.takeWhile_append_of_pos (p := fun c : UInt8 => decide (c ≠ 47)) (l₁ := l) (l₂ := []) (by simpa using h2)
    have e2 := List.dropWhile_append_of_pos (p := fun c : UInt8 => decide (c ≠ 47)) (l₁ := l) (l₂ := []) (by simpa using h2)
    simp only [List.append_nil, List.takeWhile_nil, List.dropWhile_nil] at e1 e2
    rw [e1, e2]
  · right
    refine ⟨p, r, hl, h3, ?_⟩
    rw [hl]
    unfold cutSlash
    rw [List.takeWhile_append_of_pos (by simpa using h2), List.dropWhile_append_of_pos (by simpa using h2)]
    simp

theorem bytes_ext' (x y : ByteArray) (h : x.data.toList = y.data.toList) : x = y := by
  cases x; cases y
  simp only [ByteArray.mk.injEq]
  exact Array.toList_inj.1 h
theorem cut_take (p r : Bs) : (⟨(p ++ r).toArray⟩ : ByteArray).extract 0 p.length = ⟨p.toArray⟩ := by
  apply bytes_ext'
  rw [Lib.extract_data]
  simp
theorem cut_drop (p r : Bs) : (⟨(p ++ r).toArray⟩ : ByteArray).extract p.length (p.length + r.length) = ⟨r.toArray⟩ := by
  apply bytes_ext'
  rw [Lib.extract_data]
  simp

set_option maxHeartbeats 1000000 in
theorem Tryz.cutAtSlash_any (l : Bs) (w : World) :
    Calls Tryz.prog 281 #[.string ⟨l.toArray⟩] w fun e w' => e = .returned (.tuple #[.string ⟨(cutSlash l).1.toArray⟩, .string ⟨(cutSlash l).2.toArray⟩]) ∧ ∃ n, w' = w.drewN n := by
  have HI : Hid (Calls Tryz.prog 141 #[.string ⟨l.toArray⟩, .int .u8 47] w fun e w' => e = .returned (.int .i64 (Lib.indexByte l 47)) ∧ w' = w) := Tryz.strings_IndexByte ⟨l.toArray⟩ 47 w
  rcases slash_split l with ⟨h1, h2⟩ | ⟨p, r, hl, h1, h2⟩
  · have HE : Hid (cutSlash l = (l, [])) := h2
    rw [h1] at HI
    clear h1 h2
    go_enter Tryz.func281, Tryz.ntmps281
    go_wp2_with fail
    refine HI.out.mono ?_
    rintro e w' ⟨rfl, hw0⟩
    have hw0 := hw0.symm
    subst hw0
    go_wp2
    go_ret2
    rw [HE.out]
    exact ⟨rfl, 0, rfl⟩
  · have HE : Hid (cutSlash l = (p, 47 :: r)) := h2
    rw [h1] at HI
    have hlen : l.length = p.length + (r.length + 1) := by rw [hl]; simp
    have hsz : (⟨l.toArray⟩ : ByteArray).size = p.length + (r.length + 1) := by rw [size_mk, hlen]
    have e1 : (⟨l.toArray⟩ : ByteArray).extract 0 p.length = ⟨p.toArray⟩ := by rw [hl]; exact cut_take p (47 :: r)
    have e2 : (⟨l.toArray⟩ : ByteArray).extract p.length (p.length + (r.length + 1)) = ⟨(47 :: r).toArray⟩ := by rw [hl]; exact cut_drop p (47 :: r)
    have hz1 : ((p.length : Int)) ≤ ((⟨l.toArray⟩ : ByteArray).size : Int) := by rw [hsz]; omega
    have r1 : ∀ W, (Instr.slice 9 (.string ⟨l.toArray⟩) none (some (.int .i64 p.length)) none).run Tryz.prog W = .ok (.string ⟨p.toArray⟩) W := fun W => by
      rw [run_slice_string_to_if W 9 _ .i64 _ Tryz.underlying9, if_pos ⟨by omega, hz1⟩, Int.toNat_natCast, e1]
    have r2 : ∀ W, (Instr.slice 9 (.string ⟨l.toArray⟩) (some (.int .i64 p.length)) none none).run Tryz.prog W = .ok (.string ⟨(47 :: r).toArray⟩) W := fun W => by
      rw [run_slice_string_from_if W 9 _ .i64 _ Tryz.underlying9, if_pos ⟨by omega, hz1⟩, Int.toNat_natCast, hsz, e2]
    clear h1 h2 hl hlen
    go_enter Tryz.func281, Tryz.ntmps281
    go_wp2_with fail
    refine HI.out.mono ?_
    rintro e w' ⟨rfl, hw0⟩
    have hw0 := hw0.symm
    subst hw0
    go_wp2
    go_quiet (fail)
    go_wp2
    go_ret2
    rw [HE.out]
    exact ⟨rfl, _, rfl⟩

def fragAlone (c : Cuts) : Bool := c.middle.isEmpty && (!c.query.isSome && c.frag.isSome)
theorem mk_empty (l : Bs) : (⟨l.toArray⟩ : ByteArray).toList.isEmpty = l.isEmpty := by rw [Lib.toList_data]
set_option maxHeartbeats 1000000 in
theorem Tryz.isFragmentAlone_any (c : Cuts) (w : World) :
    Calls Tryz.prog 207 #[.agg (cutsCells c)] w fun e w' => e = .returned (.bool (fragAlone c)) ∧ Below w.heap.size w w' := by
  obtain ⟨sc, mi, qu, fr⟩ := c
  unfold cutsCells fragAlone
  simp only
  have hme := mk_empty mi
  have hme2 : mi.toArray.isEmpty = mi.isEmpty := by cases mi <;> rfl
  cases hm : mi.isEmpty with
  | false =>
    rw [hm] at hme hme2
    go_enter Tryz.func207, Tryz.ntmps207
    go_wp2
    go_ret
    exact ⟨rfl, (Below.refl _ _).alloc (Nat.le_refl _) _⟩
  | true =>
    rw [hm] at hme hme2
    cases qu with
    | some x =>
      go_enter Tryz.func207, Tryz.ntmps207
      go_wp2
      go_ret
      exact ⟨rfl, (Below.refl _ _).alloc (Nat.le_refl _) _⟩
    | none =>
      cases fr with
      | some y =>
        go_enter Tryz.func207, Tryz.ntmps207
        go_wp2
        go_ret
        exact ⟨rfl, (Below.refl _ _).alloc (Nat.le_refl _) _⟩
      | none =>
        go_enter Tryz.func207, Tryz.ntmps207
        go_wp2
        go_ret
        exact ⟨rfl, (Below.refl _ _).alloc (Nat.le_refl _) _⟩
end Go.Proofs
