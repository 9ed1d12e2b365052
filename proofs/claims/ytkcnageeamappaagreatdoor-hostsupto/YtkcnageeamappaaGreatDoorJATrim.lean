/-
  What isScheme, cutScheme and cutAtMarks of package address answer.
-/
import Derived.Test.YtkcnageeamappaaGreatDoorJABridge
import Derived.Shelf.Strings.SlTrimAscii
import Derived.Test.YtkcnageeamappaaGreatDoorJSIp6
import Derived.Laws.ResultCell
import Derived.Laws.Rows
import Derived.Test.YtkcnageeamappaaGreatDoorJAPlain
import Derived.Shelf.GgClosure.StringsTrimFunc
import Derived.Lib.TrimUEq
import Derived.Laws.RangeAny
namespace Go.Proofs
open Go.RowKit Go.Moor

def schemeL : List UInt8 := [65, 66, 67, 68, 69, 70, 71, 72, 73, 74, 75, 76, 77, 78, 79, 80, 81, 82, 83, 84, 85, 86, 87, 88, 89, 90, 97, 98, 99, 100, 101, 102, 103, 104, 105, 106, 107, 108, 109, 110, 111, 112, 113, 114, 115, 116, 117, 118, 119, 120, 121, 122, 48, 49, 50, 51, 52, 53, 54, 55, 56, 57, 43, 45, 46]
theorem scheme_fin : ∀ c : Fin 256, schemeL.contains c.val.toUInt8 = schemeByte c.val.toUInt8 := by decide +kernel
theorem scheme_is (c : UInt8) : schemeL.contains c = schemeByte c := by
  have := scheme_fin ⟨c.toNat, c.toNat_lt⟩
  simpa using this
theorem scheme_ascii : ∀ (j : Nat) b, (⟨schemeL.toArray⟩ : ByteArray).data.toList[j]? = some b → b.toNat < 128 := by
  intro j b h
  have h2 : ∀ b ∈ schemeL, b.toNat < 128 := by decide +kernel
  exact h2 b (List.mem_of_getElem? h)

theorem Tryz.trimScheme (s : ByteArray) (w : World) (hs : s.size < 4294967281) :
    Calls Tryz.prog 241 #[.string s, .string ⟨schemeL.toArray⟩] w fun e w' => (∃ r : ByteArray, r.toList.isEmpty = (s.data.toList.all schemeByte) ∧ e = .returned (.string r)) ∧ Below w.heap.size w w' := by
  refine (Any.strings_Trim_laid Tryz.lays160 (by kernel_rfl) s ⟨schemeL.toArray⟩ w (by omega) (by decide +kernel) scheme_ascii).mono ?_
  rintro e w' ⟨rfl, hb⟩
  refine ⟨⟨_, ?_, rfl⟩, hb⟩
  rw [Lib.toList_data]
  show (Lib.trimS s.data.toList schemeL).isEmpty = _
  rw [trimS_all]
  congr 1
  funext c
  exact scheme_is c

set_option maxHeartbeats 1000000 in
theorem Tryz.isScheme_any (s : ByteArray) (w : World) (hs : s.size < 4294967281) :
    Calls Tryz.prog 204 #[.string s] w fun e w' => e = .returned (.bool (isSchemeB s.data.toList)) ∧ Below w.heap.size w w' := by
  have HB : Hid (Calls Tryz.prog 240 #[.string s] w fun e w' => e = .returned (.bool (begLetter s.data.toList)) ∧ w' = w) := Tryz.beginsWithLetter_any s w
  have HT : Hid (Calls Tryz.prog 241 #[.string s, .string ⟨schemeL.toArray⟩] w fun e w' => (∃ r : ByteArray, r.toList.isEmpty = (s.data.toList.all schemeByte) ∧ e = .returned (.string r)) ∧ Below w.heap.size w w') := Tryz.trimScheme s w hs
  cases hb : begLetter s.data.toList with
  | false =>
    have HR : Hid (isSchemeB s.data.toList = false) := by show _ = _; unfold isSchemeB; rw [hb]; rfl
    rw [hb] at HB
    clear hb
    go_enter Tryz.func204, Tryz.ntmps204
    go_wp2_with fail
    refine HB.out.mono ?_
    rintro e w' ⟨rfl, hw0⟩
    have hw0 := hw0.symm
    subst hw0
    go_wp2
    go_ret
    rw [HR.out]
    exact ⟨rfl, Below.refl _ _⟩
  | true =>
    cases ha : s.data.toList.all schemeByte with
    | true =>
      have HR : Hid (isSchemeB s.data.toList = true) := by show _ = _; unfold isSchemeB; rw [hb, ha]; rfl
      rw [hb] at HB
      rw [ha] at HT
      clear hb ha
      go_enter Tryz.func204, Tryz.ntmps204
      go_wp2_with fail
      refine HB.out.mono ?_
      rintro e w' ⟨rfl, hw0⟩
      have hw0 := hw0.symm
      subst hw0
      go_wp2_with fail
      refine HT.out.mono ?_
      rintro e w2 ⟨⟨r, hr, rfl⟩, b2⟩
      go_wp2
      go_ret
      rw [HR.out]
      exact ⟨rfl, b2⟩
    | false =>
      have HR : Hid (isSchemeB s.data.toList = false) := by show _ = _; unfold isSchemeB; rw [hb, ha]; rfl
      rw [hb] at HB
      rw [ha] at HT
      clear hb ha
      go_enter Tryz.func204, Tryz.ntmps204
      go_wp2_with fail
      refine HB.out.mono ?_
      rintro e w' ⟨rfl, hw0⟩
      have hw0 := hw0.symm
      subst hw0
      go_wp2_with fail
      refine HT.out.mono ?_
      rintro e w2 ⟨⟨r, hr, rfl⟩, b2⟩
      go_wp2
      go_ret
      rw [HR.out]
      exact ⟨rfl, b2⟩

/-- strings.Cut by one byte. -/
theorem Tryz.cut_byte (s : ByteArray) (c : UInt8) (m : Int) (w : World) (hs : s.size < 4294967281) (hm : w.cell? ⟨16, 0, none⟩ = some (.int .i64 m)) :
    Calls Tryz.prog 112 #[.string s, .string ⟨#[c]⟩] w fun e w' => e = .returned (.tuple #[.string ⟨(cutOpt c s.data.toList).1.toArray⟩, .string ⟨((cutOpt c s.data.toList).2.getD []).toArray⟩, .bool (cutOpt c s.data.toList).2.isSome]) ∧ ∃ n, w' = w.drewN n := by
  refine (Tryz.strings_Cut s ⟨#[c]⟩ m w hs hm).mono ?_
  rintro e w' ⟨rfl, n, rfl⟩
  refine ⟨?_, n, rfl⟩
  have e1 : Lib.cut s.data.toList (⟨#[c]⟩ : ByteArray).data.toList = ((cutOpt c s.data.toList).1, (cutOpt c s.data.toList).2.getD [], (cutOpt c s.data.toList).2.isSome) := cutOpt_cut c s.data.toList
  rw [e1]

theorem cutB_parts (c : UInt8) : ∀ (l a b : Bs), cutB c l = some (a, b) → l = a ++ c :: b
  | [], a, b, h => by simp [cutB] at h
  | x :: l, a, b, h => by
    rw [cutB] at h
    split at h
    · rename_i hx
      cases h
      rw [hx]
      rfl
    · cases hc : cutB c l with
      | none => rw [hc] at h; simp at h
      | some p =>
        rw [hc] at h
        simp at h
        obtain ⟨h1, h2⟩ := h
        have := cutB_parts c l p.1 p.2 hc
        rw [← h1, ← h2, this]
        rfl
theorem cutOpt_len (c : UInt8) (l : Bs) : (cutOpt c l).1.length ≤ l.length ∧ ((cutOpt c l).2.getD []).length ≤ l.length := by
  unfold cutOpt
  cases h : cutB c l with
  | none => simp
  | some p =>
    have := cutB_parts c l p.1 p.2 h
    have hl : l.length = p.1.length + (p.2.length + 1) := by rw [this]; simp
    simp
    omega
theorem scheme_ascii' (l : Bs) (h : isSchemeB l = true) : ∀ (j : Nat) (b : UInt8), l[j]? = some b → b.toNat < 128 := by
  intro j b hb
  unfold isSchemeB at h
  rw [Bool.and_eq_true] at h
  have h2 := List.all_eq_true.1 h.2 b (List.mem_of_getElem? hb)
  have h3 : ∀ c : Fin 256, schemeByte c.val.toUInt8 = true → c.val < 128 := by decide +kernel
  have := h3 ⟨b.toNat, b.toNat_lt⟩
  simp at this
  exact this h2

set_option maxHeartbeats 2000000 in
theorem Tryz.cutScheme_any (s : ByteArray) (w : World) (hs : s.size < 4294967281) (henv : Tryz.Env w) :
    Calls Tryz.prog 151 #[.string s] w fun e w' => e = .returned (.tuple #[.string ⟨(cutScheme s.data.toList).1.toArray⟩, .string ⟨(cutScheme s.data.toList).2.toArray⟩]) ∧ Below w.heap.size w w' := by
  obtain ⟨m, hm⟩ := henv.maxLen
  have HC : Hid (Calls Tryz.prog 112 #[.string s, .string ⟨#[58]⟩] w fun e w' => e = .returned (.tuple #[.string ⟨(cutOpt 58 s.data.toList).1.toArray⟩, .string ⟨((cutOpt 58 s.data.toList).2.getD []).toArray⟩, .bool (cutOpt 58 s.data.toList).2.isSome]) ∧ ∃ n, w' = w.drewN n) := Tryz.cut_byte s 58 m w hs hm
  clear hm
  have hlen := cutOpt_len 58 s.data.toList
  rw [← Lib.size_eq] at hlen
  cases hc : cutB 58 s.data.toList with
  | none =>
    have HR : Hid (cutScheme s.data.toList = ([], s.data.toList)) := by show _ = _; unfold cutScheme; rw [hc]
    have e : cutOpt 58 s.data.toList = (s.data.toList, none) := by unfold cutOpt; rw [hc]
    rw [e] at HC
    clear e hc hlen
    go_enter Tryz.func151, Tryz.ntmps151
    go_wp2_with fail
    refine HC.out.mono ?_
    rintro e w1 ⟨rfl, n, rfl⟩
    go_wp2
    go_ret2
    rw [HR.out]
    exact ⟨rfl, drew_here _ _ _⟩
  | some p =>
    have e : cutOpt 58 s.data.toList = (p.1, some p.2) := by unfold cutOpt; rw [hc]
    rw [e] at HC hlen
    obtain ⟨hl1, hl2⟩ := hlen
    obtain ⟨p1, p2⟩ := p
    simp only at hl1 hl2 HC
    have HS : Hid (∀ W, Calls Tryz.prog 204 #[.string ⟨p1.toArray⟩] W fun e w' => e = .returned (.bool (isSchemeB p1)) ∧ Below W.heap.size W w') := fun W => Tryz.isScheme_any ⟨p1.toArray⟩ W (by rw [size_mk]; omega)
    cases hsb : isSchemeB p1 with
    | false =>
      have HR : Hid (cutScheme s.data.toList = ([], s.data.toList)) := by show _ = _; unfold cutScheme; rw [hc]; simp [hsb]
      rw [hsb] at HS
      clear e hc hsb
      go_enter Tryz.func151, Tryz.ntmps151
      go_wp2_with fail
      refine HC.out.mono ?_
      rintro e w1 ⟨rfl, n, rfl⟩
      go_wp2_with fail
      refine (HS.out _).mono ?_
      rintro e w2 ⟨rfl, b2⟩
      go_wp2
      go_ret2
      rw [HR.out]
      exact ⟨rfl, (drew_here _ _ n).trans b2⟩
    | true =>
      have HR : Hid (cutScheme s.data.toList = (Lib.toLowerA p1, p2)) := by show _ = _; unfold cutScheme; rw [hc]; simp [hsb]
      have HL : Hid (∀ W, Calls Tryz.prog 143 #[.string ⟨p1.toArray⟩] W fun e w' => e = .returned (.string ⟨(Lib.toLowerA p1).toArray⟩) ∧ Below W.heap.size W w') := fun W => Tryz.strings_ToLower_ascii ⟨p1.toArray⟩ W (by rw [size_mk]; omega) (scheme_ascii' p1 hsb)
      rw [hsb] at HS
      clear e hc hsb
      go_enter Tryz.func151, Tryz.ntmps151
      go_wp2_with fail
      refine HC.out.mono ?_
      rintro e w1 ⟨rfl, n, rfl⟩
      go_wp2_with fail
      refine (HS.out _).mono ?_
      rintro e w2 ⟨rfl, b2⟩
      go_wp2_with fail
      refine (HL.out _).mono ?_
      rintro e w3 ⟨rfl, b3⟩
      go_wp2
      go_ret2
      rw [HR.out]
      exact ⟨rfl, ((drew_here _ _ n).trans b2).trans (b3.mono b2.size)⟩
end Go.Proofs
/-
  What the functions of package address that cut at marks answer.
-/
namespace Go.Proofs
open Go.RowKit Go.Moor

theorem alloc_here (w : World) (cs : Array Value) (t : TypeId) : (w.alloc (.cells cs t)).heap[w.heap.size]? = some (.cells cs t (0, 0)) := by
  unfold World.alloc
  exact Array.getElem?_push_size

def optCells (o : Option Bs) : Array Value := #[.bool o.isSome, .string ⟨(o.getD []).toArray⟩]
def cutsCells (c : Cuts) : Array Value := #[.string ⟨c.scheme.toArray⟩, .string ⟨c.middle.toArray⟩, .bool c.query.isSome, .string ⟨(c.query.getD []).toArray⟩, .bool c.frag.isSome, .string ⟨(c.frag.getD []).toArray⟩]
def noCuts : Array Value := #[.string ⟨#[]⟩, .string ⟨#[]⟩, .bool false, .string ⟨#[]⟩, .bool false, .string ⟨#[]⟩]
theorem cutsCells_one (c : Cuts) : (cutsCells c).all (·.oneCell') = true := by
  simp [cutsCells, Value.oneCell']
theorem Tryz.sizeMarks : (Tryz.prog.info? 137).map (·.size) = some 6 := by kernel_rfl
theorem Tryz.sizeOptional : (Tryz.prog.info? 75).map (·.size) = some 2 := by kernel_rfl

set_option maxHeartbeats 2000000 in
theorem Tryz.cutAtMarks_any (s : ByteArray) (w : World) (hs : s.size < 4294967281) (henv : Tryz.Env w) :
    Calls Tryz.prog 93 #[.string s] w fun e w' => e = .returned (.agg (cutsCells (cutMarks s.data.toList))) ∧ Below w.heap.size w w' := by
  have HV : Hid (Tryz.Env w) := henv
  clear henv
  have HW : Hid (Below w.heap.size w (w.alloc (.cells noCuts 137))) := (Below.refl _ _).alloc (Nat.le_refl _) _
  have HVA : Hid (Tryz.Env (w.alloc (.cells noCuts 137))) := HV.out.below HW.out
  have HA : Hid ((w.alloc (.cells noCuts 137)).heap[w.heap.size]? = some (.cells noCuts 137 (0, 0))) := alloc_here w _ _
  have HSC : Hid (Calls Tryz.prog 151 #[.string s] (w.alloc (.cells noCuts 137)) fun e w' => e = .returned (.tuple #[.string ⟨(cutScheme s.data.toList).1.toArray⟩, .string ⟨(cutScheme s.data.toList).2.toArray⟩]) ∧ Below (w.alloc (.cells noCuts 137)).heap.size (w.alloc (.cells noCuts 137)) w') := Tryz.cutScheme_any s _ hs HVA.out
  have hlen : (cutScheme s.data.toList).2.length ≤ s.size := by
    unfold cutScheme
    rw [Lib.size_eq]
    cases h : cutB 58 s.data.toList with
    | none => exact Nat.le_refl _
    | some p =>
      have := cutB_parts 58 _ p.1 p.2 h
      have hl : s.data.toList.length = p.1.length + (p.2.length + 1) := by rw [this]; simp
      show (if isSchemeB p.1 = true then (Lib.toLowerA p.1, p.2) else ([], s.data.toList)).2.length ≤ _
      split
      · show p.2.length ≤ _
        omega
      · exact Nat.le_refl _
  have HCM : Hid (cutsCells (cutMarks s.data.toList) = cutsCells ⟨(cutScheme s.data.toList).1, (cutOpt 63 (cutOpt 35 (cutScheme s.data.toList).2).1).1, (cutOpt 63 (cutOpt 35 (cutScheme s.data.toList).2).1).2, (cutOpt 35 (cutScheme s.data.toList).2).2⟩) := rfl
  generalize (cutScheme s.data.toList).1 = sc at *
  generalize (cutScheme s.data.toList).2 = rest at *
  have hl1 := cutOpt_len 35 rest
  have hl2 := cutOpt_len 63 (cutOpt 35 rest).1
  have HC1 : Hid (∀ m W, W.cell? ⟨16, 0, none⟩ = some (.int .i64 m) → Calls Tryz.prog 112 #[.string ⟨rest.toArray⟩, .string ⟨#[35]⟩] W fun e w' => e = .returned (.tuple #[.string ⟨(cutOpt 35 rest).1.toArray⟩, .string ⟨((cutOpt 35 rest).2.getD []).toArray⟩, .bool (cutOpt 35 rest).2.isSome]) ∧ ∃ n, w' = W.drewN n) := fun m W hm => Tryz.cut_byte ⟨rest.toArray⟩ 35 m W (by rw [size_mk]; omega) hm
  have HC2 : Hid (∀ m W, W.cell? ⟨16, 0, none⟩ = some (.int .i64 m) → Calls Tryz.prog 112 #[.string ⟨(cutOpt 35 rest).1.toArray⟩, .string ⟨#[63]⟩] W fun e w' => e = .returned (.tuple #[.string ⟨(cutOpt 63 (cutOpt 35 rest).1).1.toArray⟩, .string ⟨((cutOpt 63 (cutOpt 35 rest).1).2.getD []).toArray⟩, .bool (cutOpt 63 (cutOpt 35 rest).1).2.isSome]) ∧ ∃ n, w' = W.drewN n) := fun m W hm => Tryz.cut_byte ⟨(cutOpt 35 rest).1.toArray⟩ 63 m W (by rw [size_mk]; omega) hm
  clear hl1 hl2 hlen hs
  go_enter Tryz.func93, Tryz.ntmps93
  go_wp2_with fail
  refine HSC.out.mono ?_
  rintro e w1 ⟨rfl, b1⟩
  have HN : Hid (w1.heap[w.heap.size]? = some (.cells noCuts 137 (0, 0))) := (b1.block _ (by simp)).trans HA.out
  have HB1 : Hid (Below w.heap.size w w1) := HW.out.trans (b1.mono (by simp))
  obtain ⟨m, hm⟩ := (HVA.out.below b1).maxLen
  have HM : Hid (w1.cell? ⟨16, 0, none⟩ = some (.int .i64 m)) := hm
  clear b1 hm HVA
  go_wp2_with fail
  refine (HC1.out m w1 HM.out).mono ?_
  rintro e w2 ⟨rfl, n1, rfl⟩
  go_wp2_with fail
  refine (HC2.out m (w1.drewN n1) HM.out).mono ?_
  rintro e w2 ⟨rfl, n2, rfl⟩
  have HN2 : Hid (((w1.drewN n1).drewN n2).heap[w.heap.size]? = some (.cells noCuts 137 (0, 0))) := HN.out
  have HB2 : Hid (Below w.heap.size w ((w1.drewN n1).drewN n2)) := drew_on (drew_on HB1.out n1) n2
  have HSZ : Hid ((cutsCells ⟨sc, (cutOpt 63 (cutOpt 35 rest).1).1, (cutOpt 63 (cutOpt 35 rest).1).2, (cutOpt 35 rest).2⟩).all (·.oneCell') = true) := cutsCells_one _
  generalize (w1.drewN n1).drewN n2 = w3 at *
  go_wp2_with (refine wpList_store_row rfl 137 _ _ rfl w.heap.size (cutsCells ⟨sc, (cutOpt 63 (cutOpt 35 rest).1).1, (cutOpt 63 (cutOpt 35 rest).1).2, (cutOpt 35 rest).2⟩) rfl rfl 137 noCuts HN2.out Tryz.sizeMarks rfl HSZ.out ?_)
  (try simp only [Exit.inBlock, Exit.then])
  refine bodyPost_ret (v := .agg (cutsCells ⟨sc, (cutOpt 63 (cutOpt 35 rest).1).1, (cutOpt 63 (cutOpt 35 rest).1).2, (cutOpt 35 rest).2⟩)) ?_ rfl ⟨by rw [HCM.out], below_setRow HB2.out (Nat.le_refl _) _⟩
  exact results_cell_row rfl _ _ w.heap.size 137 _ (0, 0) _ rfl (setRow_heap w3 w.heap.size noCuts _ 137 (0, 0) HN2.out) Tryz.underlying137 rfl Tryz.sizeMarks
end Go.Proofs
/-
  What the variables hold that package address reads.
-/
namespace Go.Proofs
open Go.RowKit Go.Moor

structure Tryz.Env2 (w : World) : Prop where
  env : Tryz.Env w
  tz : Tryz.Tz w
  u8 : Lib.Utf8Tabs 21 22 w
  eBase : Tryz.Err 6 w
  eOpaque : Tryz.Err 15 w
  eHost : Tryz.Err 12 w
  eSyntax : Tryz.Err 25 w
  eRange : Tryz.Err 26 w

theorem Tryz.Env2.below {w w' : World} (h : Tryz.Env2 w) (hb : Below w.heap.size w w') : Tryz.Env2 w' := by
  have hz := h.env.size
  refine ⟨h.env.below hb, h.tz.below hb (by omega), ⟨fun c hc => ?_, fun i hi => ⟨?_, ?_⟩⟩, h.eBase.below hb (by omega), h.eOpaque.below hb (by omega), h.eHost.below hb (by omega), h.eSyntax.below hb (by omega), h.eRange.below hb (by omega)⟩
  · rw [hb.cell (p := ⟨21, c, none⟩) (show 21 < w.heap.size by omega)]
    exact h.u8.1 c hc
  · rw [hb.cell (p := ⟨22, 2 * i, none⟩) (show 22 < w.heap.size by omega)]
    exact (h.u8.2 i hi).1
  · rw [hb.cell (p := ⟨22, 2 * i + 1, none⟩) (show 22 < w.heap.size by omega)]
    exact (h.u8.2 i hi).2
end Go.Proofs
/-
  Plain mathematics: strings.TrimFunc by 'below 33' is to trim bytes.
-/
namespace Go.Moor
open Go

def p33 (r : Nat) : Bool := decide (r < 33)

theorem decode_at_byte (s : ByteArray) (pos : Nat) (h : pos < s.size) : p33 (Utf8.decode s pos).1 = blankB (s.data.toList.getD pos 0) ∧ (blankB (s.data.toList.getD pos 0) = true → (Utf8.decode s pos).2 = 1) := by
  have hg : (s.data.toList.getD pos 0) = s[pos]'h := by
    have h2 : s.data.toList[pos]? = some (s[pos]'h) := by
      rw [List.getElem?_eq_getElem (by rw [← Lib.size_eq]; exact h)]
      rfl
    simp only [List.getD, h2, Option.getD_some]
  rw [hg]
  by_cases ha : (s[pos]'h).toNat < 128
  · rw [decode_ascii s pos h ha]
    exact ⟨rfl, fun _ => rfl⟩
  · have hh := decode_high s pos h (by omega)
    refine ⟨?_, fun hb => ?_⟩
    · unfold p33 blankB
      rw [decide_eq_false (by omega), decide_eq_false (by omega)]
    · unfold blankB at hb
      have := of_decide_eq_true hb
      omega

theorem left33 (s : ByteArray) : ∀ (f pos : Nat), s.size ≤ pos + f → (if Lib.idxFuncFrom p33 false s f pos = -1 then [] else s.data.toList.drop (Lib.idxFuncFrom p33 false s f pos).toNat) = (s.data.toList.drop pos).dropWhile blankB
  | 0, pos, h => by
    rw [show Lib.idxFuncFrom p33 false s 0 pos = -1 from rfl, if_pos rfl, List.drop_eq_nil_of_le (by rw [← Lib.size_eq]; omega)]
    rfl
  | f + 1, pos, h => by
    by_cases hp : pos < s.size
    · have hlt : pos < s.data.toList.length := by rw [← Lib.size_eq]; exact hp
      obtain ⟨h1, h2⟩ := decode_at_byte s pos hp
      have hgd : s.data.toList.getD pos 0 = s.data.toList[pos] := by simp [List.getD, List.getElem?_eq_getElem hlt]
      rw [hgd] at h1 h2
      cases hb : blankB s.data.toList[pos] with
      | true =>
        have e : Lib.idxFuncFrom p33 false s (f + 1) pos = Lib.idxFuncFrom p33 false s f (pos + 1) := by
          rw [Lib.idxFuncFrom, if_pos hp, h1, hb, if_neg (by decide), h2 hb]
        rw [e, List.drop_eq_getElem_cons hlt, List.dropWhile_cons_of_pos hb]
        exact left33 s f (pos + 1) (by omega)
      | false =>
        have e : Lib.idxFuncFrom p33 false s (f + 1) pos = (pos : Int) := by
          rw [Lib.idxFuncFrom, if_pos hp, h1, hb, if_pos rfl]
        rw [e, if_neg (by omega), Int.toNat_natCast, List.drop_eq_getElem_cons hlt, List.dropWhile_cons_of_neg (by rw [hb]; decide)]
    · rw [Lib.idxFuncFrom_end p33 false s _ pos hp, if_pos rfl, List.drop_eq_nil_of_le (by rw [← Lib.size_eq]; omega)]
      rfl
theorem trimLeft33 (s : ByteArray) : (Lib.trimLeftF p33 s).data.toList = s.data.toList.dropWhile blankB := by
  have h := left33 s s.size 0 (by omega)
  rw [List.drop_zero] at h
  rw [← h]
  unfold Lib.trimLeftF Lib.idxFunc
  split
  · rfl
  · rw [Lib.extract_data]
    refine List.take_of_length_le ?_
    rw [List.length_drop, Lib.size_eq]
    omega

theorem goB (s : ByteArray) (r : Nat) (h : r < s.size) : (Lib.decodeGoB (s.extract r s.size)).2 = (Lib.decodeL (s.data.toList.drop r)).2 := by
  unfold Lib.decodeGoB
  rw [if_neg (by rw [ByteArray.size_extract]; omega)]
  have e := Lib.decodeL_drop (s.extract r s.size) 0
  rw [List.drop_zero, Lib.extract_data, List.take_of_length_le (by rw [List.length_drop, Lib.size_eq]; omega)] at e
  rw [← e]

theorem last33 (l : Bs) (i : Nat) (hi : 0 < i) (hil : i ≤ l.length) : p33 (Lib.decodeLastL (l.take i)).1 = blankB (l.getD (i - 1) 0) ∧ (blankB (l.getD (i - 1) 0) = true → (Lib.decodeLastL (l.take i)).2 = 1) := by
  rcases Lib.last_cases l i hi hil with ⟨ha, hd⟩ | ⟨ha, hd⟩ | ⟨ha, st, hst, hd, hsum⟩
  · rw [hd]
    exact ⟨rfl, fun _ => rfl⟩
  · rw [hd]
    refine ⟨?_, fun hb => ?_⟩
    · have hb0 : blankB (l.getD (i - 1) 0) = false := by unfold blankB; exact decide_eq_false (by omega)
      rw [hb0]
      rfl
    · rfl
  · refine ⟨?_, fun hb => ?_⟩
    · have hb0 : blankB (l.getD (i - 1) 0) = false := by unfold blankB; rw [decide_eq_false (by omega)]
      rw [hb0, hd]
      have hx : ((l.take i).drop st) ≠ [] := by
        intro h0
        have := congrArg List.length h0
        rw [List.length_drop, List.length_take] at this
        simp at this
        omega
      have hsz : 0 < (⟨((l.take i).drop st).toArray⟩ : ByteArray).size := by
        rw [Lib.size_eq]
        exact List.length_pos_iff.2 hx
      obtain ⟨q1, q2⟩ := decode_at_byte ⟨((l.take i).drop st).toArray⟩ 0 hsz
      show p33 (Utf8.decode ⟨((l.take i).drop st).toArray⟩ 0).1 = false
      rw [q1]
      show blankB (((l.take i).drop st).getD 0 0) = false
      rw [Lib.getD_dropU, Nat.add_zero, Lib.getD_takeU l i st hst]
      cases hbb : blankB (l.getD st 0) with
      | false => rfl
      | true =>
        have hbb2 : blankB ((⟨((l.take i).drop st).toArray⟩ : ByteArray).data.toList.getD 0 0) = true := by
          show blankB (((l.take i).drop st).getD 0 0) = true
          rw [Lib.getD_dropU, Nat.add_zero, Lib.getD_takeU l i st hst]
          exact hbb
        have h1 := q2 hbb2
        have h2 : (Lib.decodeL ((l.take i).drop st)).2 = 1 := h1
        have h3 : st = i - 1 := by omega
        rw [h3] at hbb
        rw [hbb] at hb0
        cases hb0
    · unfold blankB at hb
      have := of_decide_eq_true hb
      omega

theorem right33 (s : ByteArray) : ∀ (f i : Nat), i ≤ f → i ≤ s.data.toList.length → Lib.OpenAt s.data.toList i →
    s.data.toList.take (if 0 ≤ Lib.lastIdxFuncFrom p33 false s f i then (Lib.lastIdxFuncFrom p33 false s f i).toNat + (Lib.decodeGoB (s.extract (Lib.lastIdxFuncFrom p33 false s f i).toNat s.size)).2 else 0) = ((s.data.toList.take i).reverse.dropWhile blankB).reverse
  | 0, i, hf, _, _ => by
    have h0 : i = 0 := by omega
    subst h0
    rfl
  | f + 1, i, hf, hil, ho => by
    by_cases hi : 0 < i
    · obtain ⟨h1, h2⟩ := last33 s.data.toList i hi hil
      have hlt : i - 1 < s.data.toList.length := by omega
      have hgd : s.data.toList.getD (i - 1) 0 = s.data.toList[i - 1] := by simp [List.getD, List.getElem?_eq_getElem hlt]
      have htk : s.data.toList.take i = s.data.toList.take (i - 1) ++ [s.data.toList[i - 1]] := by
        have := List.take_append_getElem (l := s.data.toList) (i := i - 1) hlt
        rw [show i - 1 + 1 = i by omega] at this
        exact this.symm
      rw [hgd] at h1 h2
      cases hb : blankB s.data.toList[i - 1] with
      | true =>
        have e : Lib.lastIdxFuncFrom p33 false s (f + 1) i = Lib.lastIdxFuncFrom p33 false s f (i - 1) := by
          rw [Lib.lastIdxFuncFrom, if_pos hi, h1, hb, if_neg (by decide), h2 hb]
        rw [e, htk, List.reverse_append]
        show _ = ((s.data.toList[i - 1] :: (s.data.toList.take (i - 1)).reverse).dropWhile blankB).reverse
        rw [List.dropWhile_cons_of_pos hb]
        refine right33 s f (i - 1) (by omega) (by omega) (Or.inr ?_)
        rw [hgd]
        unfold blankB at hb
        have := of_decide_eq_true hb
        omega
      | false =>
        have hw := Lib.fw_width s.data.toList i hi hil ho
        have e : Lib.lastIdxFuncFrom p33 false s (f + 1) i = ((i - (Lib.decodeLastL (s.data.toList.take i)).2 : Nat) : Int) := by
          rw [Lib.lastIdxFuncFrom, if_pos hi, h1, hb, if_pos rfl]
        rw [e, if_pos (by omega), Int.toNat_natCast, goB s _ (by
          rw [Lib.size_eq]
          have : 1 ≤ (Lib.decodeLastL (s.data.toList.take i)).2 := by rw [← hw]; exact Lib.decodeL_width _
          omega), hw]
        have hle : (Lib.decodeLastL (s.data.toList.take i)).2 ≤ i := by
          rcases Lib.last_cases s.data.toList i hi hil with ⟨_, hd⟩ | ⟨_, hd⟩ | ⟨_, st, hst, hd, hsum⟩
          · rw [hd]; exact hi
          · rw [hd]; exact hi
          · rw [hd]; omega
        rw [show i - (Lib.decodeLastL (s.data.toList.take i)).2 + (Lib.decodeLastL (s.data.toList.take i)).2 = i by omega, htk, List.reverse_append]
        show _ = ((s.data.toList[i - 1] :: (s.data.toList.take (i - 1)).reverse).dropWhile blankB).reverse
        rw [List.dropWhile_cons_of_neg (by rw [hb]; decide)]
        simp
    · have h0 : i = 0 := by omega
      subst h0
      rw [Lib.lastIdxFuncFrom_zero]
      rfl
theorem trimRight33 (s : ByteArray) : (Lib.trimRightF p33 s).data.toList = (s.data.toList.reverse.dropWhile blankB).reverse := by
  have h := right33 s s.size s.size (Nat.le_refl _) (by rw [Lib.size_eq]; exact Nat.le_refl _) (Or.inl (by rw [Lib.size_eq]))
  rw [List.take_of_length_le (l := s.data.toList) (i := s.size) (by rw [Lib.size_eq]; exact Nat.le_refl _)] at h
  rw [← h]
  unfold Lib.trimRightF Lib.rightEndF Lib.lastIdxFunc
  rw [Lib.extract_data]
  simp
theorem trim33 (s : ByteArray) : (Lib.trimF p33 s).data.toList = trimB blankB s.data.toList := by
  unfold Lib.trimF trimB
  rw [trimRight33, trimLeft33]
end Go.Moor
