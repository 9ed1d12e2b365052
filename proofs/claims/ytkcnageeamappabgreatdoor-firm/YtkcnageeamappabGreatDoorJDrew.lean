/-
  What moor.Host answers where the host is special and does not open with a bracket: the host, told, and no error; an empty text and the error of hosts; of a text that is too long the error of long texts.
-/
import Derived.Test.YtkcnageeamappabGreatDoorJAs2
import Derived.Test.YtkcnageeamappabGreatDoorJATrim
namespace Go.Proofs
open Go.RowKit Go.Moor

set_option maxHeartbeats 1000000 in
theorem Tryz.errnoOf_nil (w : World) : Calls Tryz.prog 21 #[.nilIface] w fun e w' => e = .returned (.int .i64 0) ∧ Below w.heap.size w w' := by
  go_enter Tryz.func21, Tryz.ntmps21
  go_wp2_with (go_at_call 35; refine (Tryz.as_nil _ _).mono ?_; rintro e w' ⟨rfl, rfl⟩)
  go_ret
  exact ⟨rfl, (Below.refl _ _).alloc (Nat.le_refl _) _⟩

set_option maxHeartbeats 1000000 in
theorem Tryz.errnoOf_fault (n : Int) (x y : ByteArray) (t : TypeId) (v : Value) (w : World) (henv : Tryz.Env w) : Calls Tryz.prog 21 #[.iface 77 (.agg #[.int .i64 n, .string x, .string y, .iface t v])] w fun e w' => e = .returned (.int .i64 n) ∧ Below w.heap.size w w' := by
  have HV : Hid (Tryz.Env (w.alloc (.cells #[.int .i64 0, .string ⟨#[]⟩, .string ⟨#[]⟩, .nilIface] 77))) := henv.below ((Below.refl _ _).alloc (Nat.le_refl _) _)
  have hgz := henv.size
  have HC : Hid (Calls Tryz.prog 35 #[.iface 77 (.agg #[.int .i64 n, .string x, .string y, .iface t v]), .iface 79 (.pointer (some ⟨w.heap.size, 0, none⟩))] (w.alloc (.cells #[.int .i64 0, .string ⟨#[]⟩, .string ⟨#[]⟩, .nilIface] 77)) fun ev w' => ev = .returned (.bool true) ∧ w'.cell? ⟨w.heap.size, 0, none⟩ = some (.int .i64 n) ∧ Below w.heap.size (w.alloc (.cells #[.int .i64 0, .string ⟨#[]⟩, .string ⟨#[]⟩, .nilIface] 77)) w') :=
    Tryz.as_hit w.heap.size n x y ⟨#[]⟩ ⟨#[]⟩ t v .nilIface 0 _ HV.out.errType (by first | (simp; done) | (simp; omega)) (by simp) (by simp) (by simp) (by simp) (by simp) (by simp) (by simp) (by simp) (by simp)
  clear henv hgz
  go_enter Tryz.func21, Tryz.ntmps21
  go_wp2_with (go_at_call 35; refine HC.out.mono ?_)
  rintro e W1 ⟨rfl, hc, hb⟩
  go_wp2
  go_ret
  exact ⟨rfl, ((Below.refl _ _).alloc (Nat.le_refl _) _).trans hb⟩

set_option maxHeartbeats 1000000 in
theorem Tryz.tell_special (s : ByteArray) (w : World) (hs : s.size < 4294967281) (hpf : Lib.hasPrefix s.data.toList (⟨#[91]⟩ : ByteArray).data.toList = false) (henv : Tryz.Env w) :
    Calls Tryz.prog 34 #[.string s, .bool true] w fun e w' => StrRes (hostSpecial (unesc s.data.toList)) e ∧ Below w.heap.size w w' := by
  obtain ⟨m, hm⟩ := henv.maxLen
  have hz := henv.size
  have HV : Hid (Tryz.Env w) := henv
  have HM : Hid (w.cell? ⟨15, 0, none⟩ = some (.int .i64 m)) := hm
  have HP : Hid (Lib.hasPrefix s.data.toList (⟨#[91]⟩ : ByteArray).data.toList = false) := hpf
  have hul : (unesc s.data.toList).length ≤ s.size := by
    have := unesc_len s.data.toList.length s.data.toList (Nat.le_refl _)
    simpa using this
  clear henv hm hpf
  go_enter Tryz.func34, Tryz.ntmps34
  go_wp2_with (go_at_call 59; refine (Tryz.prefix_no _ _ _ HP.out).mono ?_; rintro e w' ⟨rfl, rfl⟩)
  refine (Tryz.undo_any s m _ hs HM.out (by omega)).mono ?_
  rintro e W1 ⟨rfl, b1⟩
  have HV1 : Hid (Tryz.Env W1) := HV.out.below b1
  have HC : Hid (Calls Tryz.prog 61 #[.string ⟨(unesc s.data.toList).toArray⟩] W1 fun e w' => StrRes (hostSpecial (unesc s.data.toList)) e ∧ Below W1.heap.size W1 w') :=
    Tryz.tellSpecial_any ⟨(unesc s.data.toList).toArray⟩ W1 (by rw [size_mk]; omega) HV1.out
  cases ho : hostSpecial (unesc s.data.toList) with
  | none =>
    have HO : Hid (hostSpecial (unesc s.data.toList) = none) := ho
    clear ho
    go_wp2_with fail
    refine HC.out.mono ?_
    rw [HO.out]
    rintro e W2 ⟨⟨te, ve, rfl⟩, b2⟩
    go_wp2
    go_ret2
    rw [HO.out]
    exact ⟨⟨_, _, rfl⟩, b1.trans (b2.mono b1.size)⟩
  | some l =>
    have HO : Hid (hostSpecial (unesc s.data.toList) = some l) := ho
    clear ho
    go_wp2_with fail
    refine HC.out.mono ?_
    rw [HO.out]
    rintro e W2 ⟨rfl, b2⟩
    go_wp2
    go_ret2
    rw [HO.out]
    exact ⟨rfl, b1.trans (b2.mono b1.size)⟩

/-- A text and no error, or an empty text and a fault with the number of hosts. -/
def Tryz.TellRes (s : ByteArray) (o : Option (List UInt8)) (e : Ending) : Prop :=
  match o with
  | some l => e = .returned (.tuple #[.string ⟨l.toArray⟩, .nilIface])
  | none => ∃ t v, e = .returned (.tuple #[.string ⟨#[]⟩, .iface 77 (.agg #[.int .i64 4, .string ⟨#[104, 111, 115, 116]⟩, .string s, .iface t v])])

set_option maxHeartbeats 1000000 in
theorem Tryz.Tell_of (s : ByteArray) (sp : Bool) (o : Option (List UInt8)) (w : World)
    (ht : Calls Tryz.prog 34 #[.string s, .bool sp] w fun e w' => StrRes o e ∧ Below w.heap.size w w') :
    Calls Tryz.prog 20 #[.string s, .bool sp] w fun e w' => Tryz.TellRes s o e ∧ Below w.heap.size w w' := by
  have HT : Hid (Calls Tryz.prog 34 #[.string s, .bool sp] w fun e w' => StrRes o e ∧ Below w.heap.size w w') := ht
  clear ht
  cases ho : o with
  | none =>
    subst ho
    go_enter Tryz.func20, Tryz.ntmps20
    go_wp2_with fail
    refine HT.out.mono ?_
    rintro e W2 ⟨⟨te, ve, rfl⟩, b2⟩
    go_wp2
    go_ret2
    exact ⟨⟨_, _, rfl⟩, b2⟩
  | some l =>
    subst ho
    go_enter Tryz.func20, Tryz.ntmps20
    go_wp2_with fail
    refine HT.out.mono ?_
    rintro e W2 ⟨rfl, b2⟩
    go_wp2
    go_ret2
    exact ⟨rfl, b2⟩

/-- What Host hands back: the host told and OK, or an empty text and ErrHost. -/
def HostRes (o : Option (List UInt8)) : Ending :=
  match o with
  | some l => .returned (.tuple #[.string ⟨l.toArray⟩, .int .i64 0])
  | none => .returned (.tuple #[.string ⟨#[]⟩, .int .i64 4])

theorem Tryz.isLong_no (s : ByteArray) (w : World) (hs : s.size ≤ 2000) : Calls Tryz.prog 17 #[.string s] w fun e w' => e = .returned (.bool false) ∧ w' = w := by
  go_enter Tryz.func17, Tryz.ntmps17
  go_wp2
  go_ret
  refine ⟨?_, rfl⟩
  simp
  omega
theorem Tryz.isLong_yes (s : ByteArray) (w : World) (hs : 2000 < s.size) (hm : s.size ≤ maxLen) : Calls Tryz.prog 17 #[.string s] w fun e w' => e = .returned (.bool true) ∧ w' = w := by
  unfold maxLen at hm
  go_enter Tryz.func17, Tryz.ntmps17
  go_wp2
  go_ret
  refine ⟨?_, rfl⟩
  simp
  omega

set_option maxHeartbeats 1000000 in
theorem Tryz.Host_of (s : ByteArray) (sp : Bool) (o : Option (List UInt8)) (w : World) (henv : Tryz.Env w) (hs : s.size ≤ 2000)
    (ht : Calls Tryz.prog 34 #[.string s, .bool sp] w fun e w' => StrRes o e ∧ Below w.heap.size w w') :
    Calls Tryz.prog 9 #[.string s, .bool sp] w fun e w' => e = HostRes o ∧ Below w.heap.size w w' := by
  have HT : Hid (Calls Tryz.prog 20 #[.string s, .bool sp] w fun e w' => Tryz.TellRes s o e ∧ Below w.heap.size w w') := Tryz.Tell_of s sp o w ht
  have HV : Hid (Tryz.Env w) := henv
  clear ht henv
  cases ho : o with
  | none =>
    subst ho
    go_enter Tryz.func9, Tryz.ntmps9
    go_wp2_with fail
    refine (Tryz.isLong_no s w hs).mono ?_
    rintro e W0 ⟨rfl, hw0⟩
    have hw0 := hw0.symm
    subst hw0
    go_wp2_with fail
    refine HT.out.mono ?_
    rintro e W2 ⟨⟨te, ve, rfl⟩, b2⟩
    have HV2 : Hid (Tryz.Env W2) := HV.out.below b2
    go_wp2_with fail
    refine (Tryz.errnoOf_fault 4 _ _ te ve _ HV2.out).mono ?_
    rintro e W3 ⟨rfl, b3⟩
    go_wp2
    go_ret2
    exact ⟨rfl, b2.trans (b3.mono b2.size)⟩
  | some l =>
    subst ho
    go_enter Tryz.func9, Tryz.ntmps9
    go_wp2_with fail
    refine (Tryz.isLong_no s w hs).mono ?_
    rintro e W0 ⟨rfl, hw0⟩
    have hw0 := hw0.symm
    subst hw0
    go_wp2_with fail
    refine HT.out.mono ?_
    rintro e W2 ⟨rfl, b2⟩
    go_wp2_with fail
    refine (Tryz.errnoOf_nil _).mono ?_
    rintro e W3 ⟨rfl, b3⟩
    go_wp2
    go_ret2
    exact ⟨rfl, b2.trans (b3.mono b2.size)⟩

set_option maxHeartbeats 1000000 in
theorem Tryz.Host_long (s : ByteArray) (sp : Bool) (w : World) (hs : 2000 < s.size) (hm : s.size ≤ maxLen) :
    Calls Tryz.prog 9 #[.string s, .bool sp] w fun e w' => e = .returned (.tuple #[.string ⟨#[]⟩, .int .i64 1]) ∧ w' = w := by
  go_enter Tryz.func9, Tryz.ntmps9
  go_wp2_with fail
  refine (Tryz.isLong_yes s w hs hm).mono ?_
  rintro e W0 ⟨rfl, hw0⟩
  have hw0 := hw0.symm
  subst hw0
  go_wp2
  go_ret2
  exact ⟨rfl, rfl⟩

theorem Tryz.Host_special (s : ByteArray) (w : World) (henv : Tryz.Env w) (hs : s.size ≤ 2000) (hpf : Lib.hasPrefix s.data.toList (⟨#[91]⟩ : ByteArray).data.toList = false) :
    Calls Tryz.prog 9 #[.string s, .bool true] w fun e w' => e = HostRes (hostSpecial (unesc s.data.toList)) ∧ Below w.heap.size w w' :=
  Tryz.Host_of s true _ w henv hs (Tryz.tell_special s w (by omega) hpf henv)
end Go.Proofs
/-
  What the schemes' functions of package address answer.
-/
namespace Go.Proofs
open Go.RowKit Go.Moor

theorem ba_ne (s : ByteArray) (l : List UInt8) (h : ¬ s.data.toList = l) : (s.toList == l) = false := by
  rw [beq_eq_false_iff_ne, Lib.toList_data]
  exact h
theorem ba_eq (s : ByteArray) (l : List UInt8) (h : s.data.toList = l) : s = ⟨l.toArray⟩ := by
  rw [← h]
set_option maxHeartbeats 1000000 in
theorem Tryz.ownPort_any (s : ByteArray) (w : World) :
    Calls Tryz.prog 45 #[.string s] w fun e w' => e = .returned (.tuple #[.int .i64 (ownPort s.data.toList).1, .bool (ownPort s.data.toList).2]) ∧ w' = w := by
  by_cases h1 : s.data.toList = sHttp
  · rw [ba_eq s _ h1]
    go_enter Tryz.func45, Tryz.ntmps45
    go_wp2
    go_ret2
    exact ⟨rfl, rfl⟩
  by_cases h2 : s.data.toList = sWs
  · rw [ba_eq s _ h2]
    go_enter Tryz.func45, Tryz.ntmps45
    go_wp2
    go_ret2
    exact ⟨rfl, rfl⟩
  by_cases h3 : s.data.toList = sHttps
  · rw [ba_eq s _ h3]
    go_enter Tryz.func45, Tryz.ntmps45
    go_wp2
    go_ret2
    exact ⟨rfl, rfl⟩
  by_cases h4 : s.data.toList = sWss
  · rw [ba_eq s _ h4]
    go_enter Tryz.func45, Tryz.ntmps45
    go_wp2
    go_ret2
    exact ⟨rfl, rfl⟩
  by_cases h5 : s.data.toList = sFtp
  · rw [ba_eq s _ h5]
    go_enter Tryz.func45, Tryz.ntmps45
    go_wp2
    go_ret2
    exact ⟨rfl, rfl⟩
  by_cases h6 : s.data.toList = sFile
  · rw [ba_eq s _ h6]
    go_enter Tryz.func45, Tryz.ntmps45
    go_wp2
    go_ret2
    exact ⟨rfl, rfl⟩
  have HE : Hid (ownPort s.data.toList = (-1, false)) := by
    show _ = _
    unfold ownPort
    rw [if_neg (by simp [h1, h2]), if_neg (by simp [h3, h4]), if_neg h5, if_neg h6]
  have e1 : (s.toList == [104, 116, 116, 112]) = false := ba_ne s _ h1
  have e2 : (s.toList == [119, 115]) = false := ba_ne s _ h2
  have e3 : (s.toList == [104, 116, 116, 112, 115]) = false := ba_ne s _ h3
  have e4 : (s.toList == [119, 115, 115]) = false := ba_ne s _ h4
  have e5 : (s.toList == [102, 116, 112]) = false := ba_ne s _ h5
  have e6 : (s.toList == [102, 105, 108, 101]) = false := ba_ne s _ h6
  clear h1 h2 h3 h4 h5 h6
  go_enter Tryz.func45, Tryz.ntmps45
  go_wp2
  go_ret2
  rw [HE.out]
  exact ⟨rfl, rfl⟩

theorem Tryz.isSpecial_any (s : ByteArray) (w : World) :
    Calls Tryz.prog 29 #[.string s] w fun e w' => e = .returned (.bool (special s.data.toList)) ∧ w' = w := by
  go_enter Tryz.func29, Tryz.ntmps29
  go_wp2_with fail
  refine (Tryz.ownPort_any s _).mono ?_
  rintro e w' ⟨rfl, rfl⟩
  go_wp2
  go_ret
  exact ⟨rfl, rfl⟩
theorem Tryz.querySet_any (s : ByteArray) (w : World) :
    Calls Tryz.prog 56 #[.string s] w fun e w' => e = .returned (.int .i64 (querySet s.data.toList)) ∧ w' = w := by
  cases h : special s.data.toList with
  | true =>
    have HQ : Hid (querySet s.data.toList = 3) := by show _ = _; unfold querySet; rw [if_pos h]
    go_enter Tryz.func56, Tryz.ntmps56
    go_wp2_with fail
    refine (Tryz.isSpecial_any s _).mono ?_
    rw [h]
    rintro e w' ⟨rfl, rfl⟩
    go_wp2
    go_ret
    rw [HQ.out]
    exact ⟨rfl, rfl⟩
  | false =>
    have HQ : Hid (querySet s.data.toList = 2) := by show _ = _; unfold querySet; rw [if_neg (by simp [h])]
    go_enter Tryz.func56, Tryz.ntmps56
    go_wp2_with fail
    refine (Tryz.isSpecial_any s _).mono ?_
    rw [h]
    rintro e w' ⟨rfl, rfl⟩
    go_wp2
    go_ret
    rw [HQ.out]
    exact ⟨rfl, rfl⟩

def lettersL : List UInt8 := [65, 66, 67, 68, 69, 70, 71, 72, 73, 74, 75, 76, 77, 78, 79, 80, 81, 82, 83, 84, 85, 86, 87, 88, 89, 90, 97, 98, 99, 100, 101, 102, 103, 104, 105, 106, 107, 108, 109, 110, 111, 112, 113, 114, 115, 116, 117, 118, 119, 120, 121, 122]
theorem letters_fin : ∀ c : Fin 256, decide (0 ≤ Lib.indexByte lettersL c.val.toUInt8) = isLetter c.val.toUInt8 := by decide +kernel
theorem letters_is (c : UInt8) : decide (0 ≤ Lib.indexByte lettersL c) = isLetter c := by
  have := letters_fin ⟨c.toNat, c.toNat_lt⟩
  simpa using this

set_option maxHeartbeats 1000000 in
theorem Tryz.beginsWithLetter_any (s : ByteArray) (w : World) :
    Calls Tryz.prog 146 #[.string s] w fun e w' => e = .returned (.bool (begLetter s.data.toList)) ∧ w' = w := by
  by_cases hem : s.size = 0
  · have hs : s.toList.isEmpty = true := by
      rw [Lib.toList_data]
      have : s.data.toList = [] := List.eq_nil_of_length_eq_zero (by rw [← Lib.size_eq]; exact hem)
      rw [this]
      rfl
    have HE : Hid (begLetter s.data.toList = false) := by
      have : s.data.toList = [] := List.eq_nil_of_length_eq_zero (by rw [← Lib.size_eq]; exact hem)
      show _ = _
      rw [this]
      rfl
    clear hem
    go_enter Tryz.func146, Tryz.ntmps146
    go_wp2
    go_ret
    rw [HE.out]
    exact ⟨rfl, rfl⟩
  · have hs : s.toList.isEmpty = false := by
      rw [Lib.toList_data]
      cases h : s.data.toList with
      | nil => exact absurd (by rw [Lib.size_eq, h]; rfl) hem
      | cons c r => rfl
    have h0 : 0 < s.size := by omega
    have HE : Hid (begLetter s.data.toList = isLetter s[0]) := by
      show _ = _
      have e : s.data.toList[0]? = some s[0] := by
        rw [List.getElem?_eq_getElem (by rw [← Lib.size_eq]; exact h0)]
        rfl
      cases h : s.data.toList with
      | nil => exact absurd (by rw [Lib.size_eq, h]; rfl) hem
      | cons c r =>
        rw [h] at e
        simp at e
        rw [← e]
        rfl
    clear hem
    by_cases hl : (0 : Int) ≤ Lib.indexByte lettersL s[0]
    · have HL : Hid (isLetter s[0] = true) := by show _ = _; rw [← letters_is, decide_eq_true hl]
      go_enter Tryz.func146, Tryz.ntmps146
      go_wp2_with (go_at_call 96; refine (Tryz.indexByte_yes _ _ _ hl).mono ?_; rintro e w' ⟨⟨i, hi, rfl⟩, rfl⟩)
      go_ret
      rw [HE.out, HL.out]
      exact ⟨rfl, rfl⟩
    · have HL : Hid (isLetter s[0] = false) := by show _ = _; rw [← letters_is, decide_eq_false hl]
      go_enter Tryz.func146, Tryz.ntmps146
      go_wp2_with (go_at_call 96; refine (Tryz.indexByte_no _ _ _ hl).mono ?_; rintro e w' ⟨⟨i, hi, rfl⟩, rfl⟩)
      go_ret
      rw [HE.out, HL.out]
      refine ⟨?_, rfl⟩
      simp
      omega
end Go.Proofs
/-
  Draws leave memory as it is.
-/
namespace Go.Proofs
open Go.RowKit Go.Moor

theorem drew_here (k : Nat) (w : World) (n : Nat) : Below k w (w.drewN n) := ⟨rfl, rfl, rfl, Nat.le_refl _, fun _ _ => rfl⟩
theorem drew_on {k : Nat} {w w' : World} (h : Below k w w') (n : Nat) : Below k w (w'.drewN n) := h.trans (drew_here _ _ _)
end Go.Proofs
