/-
  What moor.Host answers where the host is special and does not open with a bracket: the host, told, and no error; an empty text and the error of hosts; of a text that is too long the error of long texts.
-/
import Derived.Test.YtkcnageeamappaaGreatDoorAs2
namespace Go.Proofs
open Go.RowKit Go.Moor

set_option maxHeartbeats 1000000 in
theorem Tryz.errnoOf_nil (w : World) : Calls Tryz.prog 33 #[.nilIface] w fun e w' => e = .returned (.int .i64 0) ∧ Below w.heap.size w w' := by
  go_enter Tryz.func33, Tryz.ntmps33
  go_wp2_with (go_at_call 56; refine (Tryz.as_nil _ _).mono ?_; rintro e w' ⟨rfl, rfl⟩)
  go_ret
  exact ⟨rfl, (Below.refl _ _).alloc (Nat.le_refl _) _⟩

set_option maxHeartbeats 1000000 in
theorem Tryz.errnoOf_fault (n : Int) (x y : ByteArray) (t : TypeId) (v : Value) (w : World) (henv : Tryz.Env w) : Calls Tryz.prog 33 #[.iface 96 (.agg #[.int .i64 n, .string x, .string y, .iface t v])] w fun e w' => e = .returned (.int .i64 n) ∧ Below w.heap.size w w' := by
  have HV : Hid (Tryz.Env (w.alloc (.cells #[.int .i64 0, .string ⟨#[]⟩, .string ⟨#[]⟩, .nilIface] 96))) := henv.below ((Below.refl _ _).alloc (Nat.le_refl _) _)
  have hgz := henv.size
  have HC : Hid (Calls Tryz.prog 56 #[.iface 96 (.agg #[.int .i64 n, .string x, .string y, .iface t v]), .iface 98 (.pointer (some ⟨w.heap.size, 0, none⟩))] (w.alloc (.cells #[.int .i64 0, .string ⟨#[]⟩, .string ⟨#[]⟩, .nilIface] 96)) fun ev w' => ev = .returned (.bool true) ∧ w'.cell? ⟨w.heap.size, 0, none⟩ = some (.int .i64 n) ∧ Below w.heap.size (w.alloc (.cells #[.int .i64 0, .string ⟨#[]⟩, .string ⟨#[]⟩, .nilIface] 96)) w') :=
    Tryz.as_hit w.heap.size n x y ⟨#[]⟩ ⟨#[]⟩ t v .nilIface 0 _ HV.out.errType (by first | (simp; done) | (simp; omega)) (by simp) (by simp) (by simp) (by simp) (by simp) (by simp) (by simp) (by simp) (by simp)
  clear henv hgz
  go_enter Tryz.func33, Tryz.ntmps33
  go_wp2_with (go_at_call 56; refine HC.out.mono ?_)
  rintro e W1 ⟨rfl, hc, hb⟩
  go_wp2
  go_ret
  exact ⟨rfl, ((Below.refl _ _).alloc (Nat.le_refl _) _).trans hb⟩

set_option maxHeartbeats 1000000 in
theorem Tryz.tell_special (s : ByteArray) (w : World) (hs : s.size < 4294967281) (hpf : Lib.hasPrefix s.data.toList (⟨#[91]⟩ : ByteArray).data.toList = false) (henv : Tryz.Env w) :
    Calls Tryz.prog 55 #[.string s, .bool true] w fun e w' => StrRes (hostSpecial (unesc s.data.toList)) e ∧ Below w.heap.size w w' := by
  obtain ⟨m, hm⟩ := henv.maxLen
  have hz := henv.size
  have HV : Hid (Tryz.Env w) := henv
  have HM : Hid (w.cell? ⟨16, 0, none⟩ = some (.int .i64 m)) := hm
  have HP : Hid (Lib.hasPrefix s.data.toList (⟨#[91]⟩ : ByteArray).data.toList = false) := hpf
  have hul : (unesc s.data.toList).length ≤ s.size := by
    have := unesc_len s.data.toList.length s.data.toList (Nat.le_refl _)
    simpa using this
  clear henv hm hpf
  go_enter Tryz.func55, Tryz.ntmps55
  go_wp2_with (go_at_call 82; refine (Tryz.prefix_no _ _ _ HP.out).mono ?_; rintro e w' ⟨rfl, rfl⟩)
  refine (Tryz.undo_any s m _ hs HM.out (by omega)).mono ?_
  rintro e W1 ⟨rfl, b1⟩
  have HV1 : Hid (Tryz.Env W1) := HV.out.below b1
  have HC : Hid (Calls Tryz.prog 84 #[.string ⟨(unesc s.data.toList).toArray⟩] W1 fun e w' => StrRes (hostSpecial (unesc s.data.toList)) e ∧ Below W1.heap.size W1 w') :=
    Tryz.tellSpecial_any ⟨(unesc s.data.toList).toArray⟩ W1 (by rw [size_mk]; omega) HV1.out
  cases ho : hostSpecial (unesc s.data.toList) with
  | none =>
    have HO : Hid (hostSpecial (unesc s.data.toList) = none) := ho
    clear ho
    go_wp2_with fail
    refine HC.out.mono ?_
    rw [HO.out]
    rintro e W2 ⟨⟨te, ve, rfl⟩, b2⟩
    go_wp2
    go_ret2
    rw [HO.out]
    exact ⟨⟨_, _, rfl⟩, b1.trans (b2.mono b1.size)⟩
  | some l =>
    have HO : Hid (hostSpecial (unesc s.data.toList) = some l) := ho
    clear ho
    go_wp2_with fail
    refine HC.out.mono ?_
    rw [HO.out]
    rintro e W2 ⟨rfl, b2⟩
    go_wp2
    go_ret2
    rw [HO.out]
    exact ⟨rfl, b1.trans (b2.mono b1.size)⟩

/-- A text and no error, or an empty text and a fault with the number of hosts. -/
def Tryz.TellRes (s : ByteArray) (o : Option (List UInt8)) (e : Ending) : Prop :=
  match o with
  | some l => e = .returned (.tuple #[.string ⟨l.toArray⟩, .nilIface])
  | none => ∃ t v, e = .returned (.tuple #[.string ⟨#[]⟩, .iface 96 (.agg #[.int .i64 4, .string ⟨#[104, 111, 115, 116]⟩, .string s, .iface t v])])

set_option maxHeartbeats 1000000 in
theorem Tryz.Tell_of (s : ByteArray) (sp : Bool) (o : Option (List UInt8)) (w : World)
    (ht : Calls Tryz.prog 55 #[.string s, .bool sp] w fun e w' => StrRes o e ∧ Below w.heap.size w w') :
    Calls Tryz.prog 32 #[.string s, .bool sp] w fun e w' => Tryz.TellRes s o e ∧ Below w.heap.size w w' := by
  have HT : Hid (Calls Tryz.prog 55 #[.string s, .bool sp] w fun e w' => StrRes o e ∧ Below w.heap.size w w') := ht
  clear ht
  cases ho : o with
  | none =>
    subst ho
    go_enter Tryz.func32, Tryz.ntmps32
    go_wp2_with fail
    refine HT.out.mono ?_
    rintro e W2 ⟨⟨te, ve, rfl⟩, b2⟩
    go_wp2
    go_ret2
    exact ⟨⟨_, _, rfl⟩, b2⟩
  | some l =>
    subst ho
    go_enter Tryz.func32, Tryz.ntmps32
    go_wp2_with fail
    refine HT.out.mono ?_
    rintro e W2 ⟨rfl, b2⟩
    go_wp2
    go_ret2
    exact ⟨rfl, b2⟩

/-- What Host hands back: the host told and OK, or an empty text and ErrHost. -/
def HostRes (o : Option (List UInt8)) : Ending :=
  match o with
  | some l => .returned (.tuple #[.string ⟨l.toArray⟩, .int .i64 0])
  | none => .returned (.tuple #[.string ⟨#[]⟩, .int .i64 4])

theorem Tryz.isLong_no (s : ByteArray) (w : World) (hs : s.size ≤ 2000) : Calls Tryz.prog 31 #[.string s] w fun e w' => e = .returned (.bool false) ∧ w' = w := by
  go_enter Tryz.func31, Tryz.ntmps31
  go_wp2
  go_ret
  refine ⟨?_, rfl⟩
  simp
  omega
theorem Tryz.isLong_yes (s : ByteArray) (w : World) (hs : 2000 < s.size) (hm : s.size ≤ maxLen) : Calls Tryz.prog 31 #[.string s] w fun e w' => e = .returned (.bool true) ∧ w' = w := by
  unfold maxLen at hm
  go_enter Tryz.func31, Tryz.ntmps31
  go_wp2
  go_ret
  refine ⟨?_, rfl⟩
  simp
  omega

set_option maxHeartbeats 1000000 in
theorem Tryz.Host_of (s : ByteArray) (sp : Bool) (o : Option (List UInt8)) (w : World) (henv : Tryz.Env w) (hs : s.size ≤ 2000)
    (ht : Calls Tryz.prog 55 #[.string s, .bool sp] w fun e w' => StrRes o e ∧ Below w.heap.size w w') :
    Calls Tryz.prog 18 #[.string s, .bool sp] w fun e w' => e = HostRes o ∧ Below w.heap.size w w' := by
  have HT : Hid (Calls Tryz.prog 32 #[.string s, .bool sp] w fun e w' => Tryz.TellRes s o e ∧ Below w.heap.size w w') := Tryz.Tell_of s sp o w ht
  have HV : Hid (Tryz.Env w) := henv
  clear ht henv
  cases ho : o with
  | none =>
    subst ho
    go_enter Tryz.func18, Tryz.ntmps18
    go_wp2_with fail
    refine (Tryz.isLong_no s w hs).mono ?_
    rintro e W0 ⟨rfl, hw0⟩
    have hw0 := hw0.symm
    subst hw0
    go_wp2_with fail
    refine HT.out.mono ?_
    rintro e W2 ⟨⟨te, ve, rfl⟩, b2⟩
    have HV2 : Hid (Tryz.Env W2) := HV.out.below b2
    go_wp2_with fail
    refine (Tryz.errnoOf_fault 4 _ _ te ve _ HV2.out).mono ?_
    rintro e W3 ⟨rfl, b3⟩
    go_wp2
    go_ret2
    exact ⟨rfl, b2.trans (b3.mono b2.size)⟩
  | some l =>
    subst ho
    go_enter Tryz.func18, Tryz.ntmps18
    go_wp2_with fail
    refine (Tryz.isLong_no s w hs).mono ?_
    rintro e W0 ⟨rfl, hw0⟩
    have hw0 := hw0.symm
    subst hw0
    go_wp2_with fail
    refine HT.out.mono ?_
    rintro e W2 ⟨rfl, b2⟩
    go_wp2_with fail
    refine (Tryz.errnoOf_nil _).mono ?_
    rintro e W3 ⟨rfl, b3⟩
    go_wp2
    go_ret2
    exact ⟨rfl, b2.trans (b3.mono b2.size)⟩

set_option maxHeartbeats 1000000 in
theorem Tryz.Host_long (s : ByteArray) (sp : Bool) (w : World) (hs : 2000 < s.size) (hm : s.size ≤ maxLen) :
    Calls Tryz.prog 18 #[.string s, .bool sp] w fun e w' => e = .returned (.tuple #[.string ⟨#[]⟩, .int .i64 1]) ∧ w' = w := by
  go_enter Tryz.func18, Tryz.ntmps18
  go_wp2_with fail
  refine (Tryz.isLong_yes s w hs hm).mono ?_
  rintro e W0 ⟨rfl, hw0⟩
  have hw0 := hw0.symm
  subst hw0
  go_wp2
  go_ret2
  exact ⟨rfl, rfl⟩

theorem Tryz.Host_special (s : ByteArray) (w : World) (henv : Tryz.Env w) (hs : s.size ≤ 2000) (hpf : Lib.hasPrefix s.data.toList (⟨#[91]⟩ : ByteArray).data.toList = false) :
    Calls Tryz.prog 18 #[.string s, .bool true] w fun e w' => e = HostRes (hostSpecial (unesc s.data.toList)) ∧ Below w.heap.size w w' :=
  Tryz.Host_of s true _ w henv hs (Tryz.tell_special s w (by omega) hpf henv)
end Go.Proofs
