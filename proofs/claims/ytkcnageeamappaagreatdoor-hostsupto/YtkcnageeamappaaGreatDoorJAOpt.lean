/-
  What isDrive, isToldDrive, beginsWithDriveLetter, dotsOf and tellSegment of package address answer.
-/
import Derived.Test.YtkcnageeamappaaGreatDoorJAMarks3
namespace Go.Proofs
open Go.RowKit Go.Moor

theorem isDrive_len (l : Bs) (h : ¬ l.length = 2) : isDrive l = false := by
  unfold isDrive
  split
  · simp at h
  · rfl
theorem two_str (a b : UInt8) : ∃ s : ByteArray, s = ⟨[a, b].toArray⟩ ∧ ∃ h : s.size = 2, (s[1]'(by omega)).toNat = b.toNat := ⟨_, rfl, rfl, rfl⟩
set_option maxHeartbeats 2000000 in
theorem Tryz.isDrive_any (l : Bs) (w : World) (hs : l.length < 4294967281) :
    Calls Tryz.prog 286 #[.string ⟨l.toArray⟩] w fun e w' => e = .returned (.bool (isDrive l)) ∧ w' = w := by
  by_cases h2 : l.length = 2
  · obtain ⟨a, b, rfl⟩ : ∃ a b, l = [a, b] := by
      match l, h2 with
      | [a, b], _ => exact ⟨a, b, rfl⟩
    have HB : Hid (Calls Tryz.prog 240 #[.string ⟨[a, b].toArray⟩] w fun e w' => e = .returned (.bool (isLetter a)) ∧ w' = w) := Tryz.beginsWithLetter_any ⟨[a, b].toArray⟩ w
    clear hs h2
    obtain ⟨s, hs, hsz, hb⟩ := two_str a b
    rw [← hs] at HB ⊢
    clear hs
    have HE0 : Hid (isDrive [a, b] = (isLetter a && (b == 58 || b == 124))) := rfl
    have h1 : 1 < s.size := by omega
    generalize hc : (s[1]'h1).toNat = c at *
    cases ha : isLetter a with
    | false =>
      have HE : Hid (isDrive [a, b] = false) := by show _ = _; rw [HE0.out, ha]; rfl
      rw [ha] at HB
      clear ha
      go_enter Tryz.func286, Tryz.ntmps286
      go_wp2_with fail
      refine HB.out.mono ?_
      rintro e w' ⟨rfl, hw0⟩
      have hw0 := hw0.symm
      subst hw0
      go_wp2
      go_ret
      rw [HE.out]
      exact ⟨rfl, rfl⟩
    | true =>
      rw [ha] at HB
      by_cases h58 : c = 58
      · have HE : Hid (isDrive [a, b] = true) := by
          show _ = _
          rw [HE0.out, ha, show b = 58 from UInt8.toNat_inj.1 (by rw [← hb, h58]; rfl)]
          rfl
        clear ha hb
        go_enter Tryz.func286, Tryz.ntmps286
        go_wp2_with fail
        refine HB.out.mono ?_
        rintro e w' ⟨rfl, hw0⟩
        have hw0 := hw0.symm
        subst hw0
        go_wp2
        go_ret
        rw [HE.out]
        exact ⟨rfl, rfl⟩
      · by_cases h124 : c = 124
        · have HE : Hid (isDrive [a, b] = true) := by
            show _ = _
            rw [HE0.out, ha, show b = 124 from UInt8.toNat_inj.1 (by rw [← hb, h124]; rfl)]
            rfl
          clear ha hb
          go_enter Tryz.func286, Tryz.ntmps286
          go_wp2_with fail
          refine HB.out.mono ?_
          rintro e w' ⟨rfl, hw0⟩
          have hw0 := hw0.symm
          subst hw0
          go_wp2
          go_ret
          rw [HE.out]
          exact ⟨rfl, rfl⟩
        · have HE : Hid (isDrive [a, b] = false) := by
            have n1 : b ≠ 58 := fun h => h58 (by rw [hb, h]; rfl)
            have n2 : b ≠ 124 := fun h => h124 (by rw [hb, h]; rfl)
            show _ = _
            rw [HE0.out]
            simp [n1, n2]
          have e58 : ((c : Int) == 58) = false := beq_eq_false_iff_ne.2 (by omega)
          have e124 : ((c : Int) == 124) = false := beq_eq_false_iff_ne.2 (by omega)
          clear ha hb
          go_enter Tryz.func286, Tryz.ntmps286
          go_wp2_with fail
          refine HB.out.mono ?_
          rintro e w' ⟨rfl, hw0⟩
          have hw0 := hw0.symm
          subst hw0
          go_wp2
          go_ret
          rw [HE.out]
          first | exact ⟨rfl, rfl⟩ | (refine ⟨?_, rfl⟩; simp [hc, h124])
  · have HE : Hid (isDrive l = false) := isDrive_len l h2
    have hsz : (⟨l.toArray⟩ : ByteArray).size = l.length := size_mk l
    have e2 : ((l.length : Int) == 2) = false := beq_eq_false_iff_ne.2 (by omega)
    go_enter Tryz.func286, Tryz.ntmps286
    go_wp2
    go_ret
    rw [HE.out]
    exact ⟨rfl, rfl⟩

set_option maxHeartbeats 2000000 in
theorem Tryz.isToldDrive_any (l : Bs) (w : World) (hs : l.length < 4294967281) :
    Calls Tryz.prog 287 #[.string ⟨l.toArray⟩] w fun e w' => e = .returned (.bool (toldDrive l)) ∧ w' = w := by
  have HB : Hid (Calls Tryz.prog 286 #[.string ⟨l.toArray⟩] w fun e w' => e = .returned (.bool (isDrive l)) ∧ w' = w) := Tryz.isDrive_any l w hs
  cases hd : isDrive l with
  | false =>
    have HE : Hid (toldDrive l = false) := by show (isDrive l && _) = false; rw [hd]; rfl
    rw [hd] at HB
    clear hd
    go_enter Tryz.func287, Tryz.ntmps287
    go_wp2_with fail
    refine HB.out.mono ?_
    rintro e w' ⟨rfl, hw0⟩
    have hw0 := hw0.symm
    subst hw0
    go_wp2
    go_ret
    rw [HE.out]
    exact ⟨rfl, rfl⟩
  | true =>
    have h2 : l.length = 2 := by
      by_cases h : l.length = 2
      · exact h
      · rw [isDrive_len l h] at hd; cases hd
    obtain ⟨a, b, rfl⟩ : ∃ a b, l = [a, b] := by
      match l, h2 with
      | [a, b], _ => exact ⟨a, b, rfl⟩
    rw [hd] at HB
    have HE0 : Hid (toldDrive [a, b] = (b == 58)) := by
      show (isDrive [a, b] && (b == 58)) = _
      rw [hd]
      rfl
    clear hs h2 hd
    obtain ⟨s, hs, hsz, hb⟩ := two_str a b
    rw [← hs] at HB ⊢
    clear hs
    have h1 : 1 < s.size := by omega
    generalize hc : (s[1]'h1).toNat = c at *
    by_cases h58 : c = 58
    · have HE : Hid (toldDrive [a, b] = true) := by
        show _ = _
        rw [HE0.out, show b = 58 from UInt8.toNat_inj.1 (by rw [← hb, h58]; rfl)]
        rfl
      clear hb
      go_enter Tryz.func287, Tryz.ntmps287
      go_wp2_with fail
      refine HB.out.mono ?_
      rintro e w' ⟨rfl, hw0⟩
      have hw0 := hw0.symm
      subst hw0
      go_wp2
      go_ret
      rw [HE.out]
      first | exact ⟨rfl, rfl⟩ | (refine ⟨?_, rfl⟩; simp [hc, h58])
    · have HE : Hid (toldDrive [a, b] = false) := by
        have n1 : b ≠ 58 := fun h => h58 (by rw [hb, h]; rfl)
        show _ = _
        rw [HE0.out]
        simp [n1]
      have e58 : ((c : Int) == 58) = false := beq_eq_false_iff_ne.2 (by omega)
      clear hb
      go_enter Tryz.func287, Tryz.ntmps287
      go_wp2_with fail
      refine HB.out.mono ?_
      rintro e w' ⟨rfl, hw0⟩
      have hw0 := hw0.symm
      subst hw0
      go_wp2
      go_ret
      rw [HE.out]
      first | exact ⟨rfl, rfl⟩ | (refine ⟨?_, rfl⟩; simp [hc, h58])

theorem cutSlash_len (l : Bs) : (cutSlash l).1.length ≤ l.length ∧ (cutSlash l).2.length ≤ l.length := by
  rcases slash_split l with ⟨_, h⟩ | ⟨p, r, hl, _, h⟩
  · rw [h]; simp
  · rw [h, hl]; simp
set_option maxHeartbeats 1000000 in
theorem Tryz.beginsWithDriveLetter_any (l : Bs) (w : World) (hs : l.length < 4294967281) :
    Calls Tryz.prog 302 #[.string ⟨l.toArray⟩] w fun e w' => e = .returned (.bool (isDrive (cutSlash l).1)) ∧ ∃ n, w' = w.drewN n := by
  have HC : Hid (Calls Tryz.prog 281 #[.string ⟨l.toArray⟩] w fun e w' => e = .returned (.tuple #[.string ⟨(cutSlash l).1.toArray⟩, .string ⟨(cutSlash l).2.toArray⟩]) ∧ ∃ n, w' = w.drewN n) := Tryz.cutAtSlash_any l w
  have hl := (cutSlash_len l).1
  generalize (cutSlash l).1 = a at *
  generalize (cutSlash l).2 = b at *
  go_enter Tryz.func302, Tryz.ntmps302
  go_wp2_with fail
  refine HC.out.mono ?_
  rintro e w' ⟨rfl, n, rfl⟩
  go_wp2_with fail
  refine (Tryz.isDrive_any a _ (by omega)).mono ?_
  rintro e w2 ⟨rfl, rfl⟩
  go_wp2
  go_ret
  exact ⟨rfl, n, rfl⟩

/-- The text of one or two dots, or none. -/
def dotsTxt (l : Bs) : Bs := if dots l = 1 then [46] else if dots l = 2 then [46, 46] else []
theorem lowDots_len : ∀ l : Bs, (lowDots l).length = l.length
  | [] => rfl
  | b :: l => by
    rcases low_split (b :: l) with ⟨_, h⟩ | ⟨p, r, h1, _, h3⟩
    · rw [h]
    · rw [h3]
      have ih := lowDots_len r
      have hl : (b :: l).length = p.length + (3 + r.length) := by rw [h1]; simp [pE]; omega
      simp only [List.length_append, pe, List.length_cons, List.length_nil]
      simp only [List.length_cons] at hl
      omega
  termination_by l => l.length
  decreasing_by
    have hl : (b :: l).length = p.length + (3 + r.length) := by rw [h1]; simp [pE]; omega
    omega
end Go.Proofs
/-
  What dotsOf, tellSegment and escaped of package address answer.
-/
namespace Go.Proofs
open Go.RowKit Go.Moor

theorem mk_ne (l c : Bs) (h : ¬ l = c) : ((⟨l.toArray⟩ : ByteArray).toList == c) = false := by
  rw [Lib.toList_data, beq_eq_false_iff_ne]
  exact h
theorem mk_eq (l c : Bs) (h : l = c) : ((⟨l.toArray⟩ : ByteArray).toList == c) = true := by
  rw [Lib.toList_data, h]
  exact beq_self_eq_true _
set_option maxHeartbeats 2000000 in
theorem Tryz.dotsOf_any (l : Bs) (w : World) (hs : l.length < 4294967281) (henv : Tryz.Env w) :
    Calls Tryz.prog 251 #[.string ⟨l.toArray⟩] w fun e w' => e = .returned (.string ⟨(dotsTxt l).toArray⟩) ∧ Below w.heap.size w w' := by
  obtain ⟨m, hm⟩ := henv.maxLen
  have hcn := countB_le ⟨l.toArray⟩ ⟨#[37, 50, 69]⟩
  rw [size_mk] at hcn
  have HR : Hid (Calls Tryz.prog 107 #[.string ⟨l.toArray⟩, .string ⟨#[37, 50, 69]⟩, .string ⟨#[37, 50, 101]⟩] w fun e w' => e = .returned (.string ⟨(lowDots l).toArray⟩) ∧ Below w.heap.size w w') := by
    refine (Tryz.strings_ReplaceAll ⟨l.toArray⟩ ⟨#[37, 50, 69]⟩ ⟨#[37, 50, 101]⟩ m w (by rw [size_mk]; exact hs) hm (by decide) (by rw [size_mk]; show _ + _ * 3 ≤ _; omega)).mono ?_
    rintro e w' ⟨rfl, hb⟩
    refine ⟨?_, hb⟩
    have e1 : Lib.replaceAll (⟨l.toArray⟩ : ByteArray).data.toList (⟨#[37, 50, 69]⟩ : ByteArray).data.toList (⟨#[37, 50, 101]⟩ : ByteArray).data.toList = lowDots l := replaceAll_low l
    rw [e1]
  clear hm hcn hs henv
  have HD : Hid (dotsTxt l = if lowDots l = [46] ∨ lowDots l = [37, 50, 101] then [46] else if lowDots l = [46, 46] ∨ lowDots l = [46, 37, 50, 101] ∨ lowDots l = [37, 50, 101, 46] ∨ lowDots l = [37, 50, 101, 37, 50, 101] then [46, 46] else []) := by
    show _ = _
    unfold dotsTxt dots
    simp only
    split
    · rfl
    · split
      · rfl
      · rfl
  generalize lowDots l = d at *
  by_cases h1 : d = [46]
  · subst h1
    go_enter Tryz.func251, Tryz.ntmps251
    go_wp2_with fail
    refine HR.out.mono ?_
    rintro e w1 ⟨rfl, b1⟩
    go_wp2
    go_ret
    rw [HD.out]
    exact ⟨rfl, b1⟩
  by_cases h2 : d = [37, 50, 101]
  · subst h2
    go_enter Tryz.func251, Tryz.ntmps251
    go_wp2_with fail
    refine HR.out.mono ?_
    rintro e w1 ⟨rfl, b1⟩
    go_wp2
    go_ret
    rw [HD.out]
    exact ⟨rfl, b1⟩
  by_cases h3 : d = [46, 46]
  · subst h3
    go_enter Tryz.func251, Tryz.ntmps251
    go_wp2_with fail
    refine HR.out.mono ?_
    rintro e w1 ⟨rfl, b1⟩
    go_wp2
    go_ret
    rw [HD.out]
    exact ⟨rfl, b1⟩
  by_cases h4 : d = [46, 37, 50, 101]
  · subst h4
    go_enter Tryz.func251, Tryz.ntmps251
    go_wp2_with fail
    refine HR.out.mono ?_
    rintro e w1 ⟨rfl, b1⟩
    go_wp2
    go_ret
    rw [HD.out]
    exact ⟨rfl, b1⟩
  by_cases h5 : d = [37, 50, 101, 46]
  · subst h5
    go_enter Tryz.func251, Tryz.ntmps251
    go_wp2_with fail
    refine HR.out.mono ?_
    rintro e w1 ⟨rfl, b1⟩
    go_wp2
    go_ret
    rw [HD.out]
    exact ⟨rfl, b1⟩
  by_cases h6 : d = [37, 50, 101, 37, 50, 101]
  · subst h6
    go_enter Tryz.func251, Tryz.ntmps251
    go_wp2_with fail
    refine HR.out.mono ?_
    rintro e w1 ⟨rfl, b1⟩
    go_wp2
    go_ret
    rw [HD.out]
    exact ⟨rfl, b1⟩
  have HE : Hid (dotsTxt l = []) := by
    show _ = _
    rw [HD.out, if_neg (by simp [h1, h2]), if_neg (by simp [h3, h4, h5, h6])]
  have e1 := mk_ne d _ h1
  have e2 := mk_ne d _ h2
  have e3 := mk_ne d _ h3
  have e4 := mk_ne d _ h4
  have e5 := mk_ne d _ h5
  have e6 := mk_ne d _ h6
  obtain ⟨s, hsd⟩ : ∃ s : ByteArray, s = ⟨d.toArray⟩ := ⟨_, rfl⟩
  rw [← hsd] at e1 e2 e3 e4 e5 e6 HR
  clear h1 h2 h3 h4 h5 h6 HD hsd
  go_enter Tryz.func251, Tryz.ntmps251
  go_wp2_with fail
  refine HR.out.mono ?_
  rintro e w1 ⟨rfl, b1⟩
  go_wp2
  go_ret
  rw [HE.out]
  exact ⟨rfl, b1⟩

set_option maxHeartbeats 2000000 in
theorem Tryz.tellSegment_any (sc l : Bs) (first : Bool) (w : World) (hs : l.length < 4294967281) (henv : Tryz.Env w) :
    Calls Tryz.prog 252 #[.string ⟨sc.toArray⟩, .string ⟨l.toArray⟩, .bool first] w fun e w' => e = .returned (.string ⟨(tellSeg sc l first).toArray⟩) ∧ Below w.heap.size w w' := by
  have HT : Hid (Calls Tryz.prog 62 #[.string ⟨l.toArray⟩, .int .i64 4] w fun e w' => e = .returned (.string ⟨(esc 4 l).toArray⟩) ∧ Below w.heap.size w w') := Tryz.text_any ⟨l.toArray⟩ 4 w (by rw [size_mk]; omega) henv.sets (by have := henv.size; omega)
  have HI : Hid (Calls Tryz.prog 286 #[.string ⟨l.toArray⟩] w fun e w' => e = .returned (.bool (isDrive l)) ∧ w' = w) := Tryz.isDrive_any l w hs
  have HE : Hid (tellSeg sc l first = if (first && decide (sc = sFile) && isDrive l) = true then l.take 1 ++ [58] else esc 4 l) := rfl
  clear henv hs
  cases first with
  | false =>
    go_enter Tryz.func252, Tryz.ntmps252
    go_wp2_with fail
    refine HT.out.mono ?_
    rintro e w1 ⟨rfl, b1⟩
    go_wp2
    go_ret
    rw [HE.out]
    exact ⟨rfl, b1⟩
  | true =>
    by_cases hf : sc = sFile
    · subst hf
      cases hd : isDrive l with
      | false =>
        rw [hd] at HI HE
        clear hd
        go_enter Tryz.func252, Tryz.ntmps252
        go_wp2_with fail
        refine HI.out.mono ?_
        rintro e w' ⟨rfl, hw0⟩
        have hw0 := hw0.symm
        subst hw0
        go_wp2_with fail
        refine HT.out.mono ?_
        rintro e w1 ⟨rfl, b1⟩
        go_wp2
        go_ret
        rw [HE.out]
        exact ⟨rfl, b1⟩
      | true =>
        have h2 : l.length = 2 := by
          by_cases h : l.length = 2
          · exact h
          · rw [isDrive_len l h] at hd; cases hd
        rw [hd] at HI HE
        have hsz : (⟨l.toArray⟩ : ByteArray).size = 2 := by rw [size_mk, h2]
        have HX : Hid ((⟨l.toArray⟩ : ByteArray).extract 0 1 ++ ⟨#[58]⟩ = ⟨(l.take 1 ++ [58]).toArray⟩) := by
          show _ = _
          have : (⟨l.toArray⟩ : ByteArray).extract 0 1 = ⟨(l.take 1).toArray⟩ := by
            apply bytes_ext'
            rw [Lib.extract_data]
            simp
          rw [this]
          exact app_mk (l.take 1) [58]
        clear hd h2
        go_enter Tryz.func252, Tryz.ntmps252
        go_wp2_with fail
        refine HI.out.mono ?_
        rintro e w' ⟨rfl, hw0⟩
        have hw0 := hw0.symm
        subst hw0
        go_wp2
        go_ret
        rw [HE.out]
        refine ⟨congrArg (fun x => Ending.returned (Value.string x)) HX.out, Below.refl _ _⟩
    · have e1 := mk_ne sc _ hf
      have HE2 : Hid (tellSeg sc l true = esc 4 l) := by show _ = _; rw [HE.out, if_neg (by simp [hf])]
      obtain ⟨s, hsd⟩ : ∃ s : ByteArray, s = ⟨sc.toArray⟩ := ⟨_, rfl⟩
      rw [← hsd] at e1 ⊢
      unfold sFile at e1
      clear hf hsd HE
      go_enter Tryz.func252, Tryz.ntmps252
      go_wp2_with fail
      refine HT.out.mono ?_
      rintro e w1 ⟨rfl, b1⟩
      go_wp2
      go_ret
      rw [HE2.out]
      exact ⟨rfl, b1⟩
end Go.Proofs
/-
  What escaped of package address answers.
-/
namespace Go.Proofs
open Go.RowKit Go.Moor

theorem cell_heap {w : World} {g : Nat} {cs : Array Value} {t : TypeId} {fr : Nat × Nat} (h : w.heap[g]? = some (.cells cs t fr)) (j : Nat) : w.cell? ⟨g, j, none⟩ = cs[j]? := by
  simp [World.cell?, h]
theorem frozen_heap {w : World} {g : Nat} {cs : Array Value} {t : TypeId} (h : w.heap[g]? = some (.cells cs t (0, 0))) (j : Nat) : w.frozen? ⟨g, j, none⟩ = false := by
  simp [World.frozen?, h]
theorem two_blocks (w : World) (a b : Obj) : ((w.alloc a).alloc b).heap[w.heap.size]? = some a ∧ ((w.alloc a).alloc b).heap[w.heap.size + 1]? = some b := by
  simp only [World.alloc, Array.getElem?_push, Array.size_push]
  refine ⟨?_, ?_⟩
  · rw [if_neg (by omega), if_pos trivial]
  · rw [if_pos trivial]
theorem same_heap {k : Nat} {w w' : World} (ho : w'.os = w.os) (ht : w'.tape = w.tape) (hu : w'.output = w.output) (hh : w'.heap = w.heap) : Below k w w' := ⟨ho, ht, hu, by rw [hh]; exact Nat.le_refl _, fun _ _ => by rw [hh]⟩
set_option maxHeartbeats 2000000 in
theorem Tryz.escaped_any (o : Option Bs) (set : Int) (w : World) (hs : (o.getD []).length < 4294967281) (henv : Tryz.Env w) :
    Calls Tryz.prog 103 #[.agg (optCells o), .int .i64 set] w fun e w' => e = .returned (.agg (optCells (o.map (esc set)))) ∧ Below w.heap.size w w' := by
  have HO : Hid (optCells (o.map (esc set)) = #[.bool o.isSome, .string ⟨(esc set (o.getD [])).toArray⟩]) := by
    show _ = _
    cases o <;> rfl
  unfold optCells
  generalize o.isSome = b at *
  generalize o.getD [] = t at *
  obtain ⟨W, hW⟩ : ∃ W, W = (w.alloc (.cells #[.bool b, .string ⟨t.toArray⟩] 75)).alloc (.cells #[.bool false, .string ⟨#[]⟩] 75) := ⟨_, rfl⟩
  have HBW : Hid (Below w.heap.size w W) := by
    rw [hW]
    exact ((Below.refl _ _).alloc (Nat.le_refl _) _).alloc (by simp) _
  have hsize : W.heap.size = w.heap.size + 2 := by rw [hW]; simp
  have HV : Hid (Tryz.Env W) := henv.below HBW.out
  have HT : Hid (∀ w0, Below W.heap.size W w0 → Calls Tryz.prog 62 #[.string ⟨t.toArray⟩, .int .i64 set] w0 fun e w' => e = .returned (.string ⟨(esc set t).toArray⟩) ∧ Below W.heap.size W w') := by
    intro w0 h0
    have hv0 := HV.out.below h0
    refine (Tryz.text_any ⟨t.toArray⟩ set w0 (by rw [size_mk]; omega) hv0.sets (by have := hv0.size; omega)).mono ?_
    rintro e w' ⟨rfl, hb⟩
    exact ⟨rfl, h0.trans (hb.mono h0.size)⟩
  have HC : Hid (∀ w1, Below W.heap.size W w1 → w1.cell? ⟨w.heap.size, 0, none⟩ = some (.bool b) ∧ w1.cell? ⟨w.heap.size, 1, none⟩ = some (.string ⟨t.toArray⟩) ∧ w1.cell? ⟨w.heap.size + 1, 0, none⟩ = some (.bool false) ∧ w1.cell? ⟨w.heap.size + 1, 1, none⟩ = some (.string ⟨#[]⟩) ∧ w1.frozen? ⟨w.heap.size + 1, 0, none⟩ = false ∧ w1.frozen? ⟨w.heap.size + 1, 1, none⟩ = false ∧ w1.heap[w.heap.size + 1]? = some (.cells #[.bool false, .string ⟨#[]⟩] 75 (0, 0))) := by
    intro w1 h1
    have h2 := two_blocks w (.cells #[.bool b, .string ⟨t.toArray⟩] 75) (.cells #[.bool false, .string ⟨#[]⟩] 75)
    rw [← hW] at h2
    have k0 := (h1.block w.heap.size (by omega)).trans h2.1
    have k1 := (h1.block (w.heap.size + 1) (by omega)).trans h2.2
    exact ⟨cell_heap k0 0, cell_heap k0 1, cell_heap k1 0, cell_heap k1 1, frozen_heap k1 0, frozen_heap k1 1, k1⟩
  clear henv
  go_enter Tryz.func103, Tryz.ntmps103
  go_wp2_with fail
  rw [← hW]
  obtain ⟨c0, c1, c2, c3, f0, f1, _⟩ := HC.out W (Below.refl _ _)
  clear hW
  go_region_with (go_at_call 62; refine Calls.mono (HT.out _ (by exact same_heap rfl rfl rfl rfl)) ?_; rintro e w1 ⟨rfl, b1⟩; obtain ⟨d0, d1, d2, d3, g0, g1, gh⟩ := HC.out w1 b1; have GH : Hid (w1.heap[w.heap.size + 1]? = some (.cells #[.bool false, .string ⟨#[]⟩] 75 (0, 0))) := gh; clear gh)
  all_goals
    go_wp2
    have h2 := heap_setCell_same _ (w.heap.size + 1) 1 _ 75 (.string ⟨(esc set t).toArray⟩) (heap_setCell_same w1 (w.heap.size + 1) 0 _ 75 (.bool b) GH.out)
    refine bodyPost_ret (v := .agg #[.bool b, .string ⟨(esc set t).toArray⟩]) (results_cell_row rfl _ _ (w.heap.size + 1) 75 _ (0, 0) _ rfl h2 Tryz.underlying75 rfl Tryz.sizeOptional) rfl ⟨?_, ?_⟩
    · exact congrArg (fun x => Ending.returned (Value.agg x)) HO.out.symm
    · exact ((HBW.out.trans (b1.mono (by omega))).setCell (Nat.le_succ _) _).setCell (Nat.le_succ _) _
end Go.Proofs
