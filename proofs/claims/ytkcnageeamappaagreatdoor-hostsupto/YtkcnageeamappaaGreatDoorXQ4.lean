import Derived.Test.YtkcnageeamappaaGreatDoorXAs2
import Derived.Test.YtkcnageeamappaaGreatDoorXFPlain
import Derived.Test.YtkcnageeamappaaGreatDoorXLabels
import Derived.Deep.DeepCutAuto
namespace Go.Proofs
open Go.RowKit Go.Moor
set_option maxHeartbeats 1000000 in
theorem Tryz.errnoOf_nil (w : World) : Calls Tryz.prog 33 #[.nilIface] w fun e w' => e = .returned (.int .i64 0) ∧ Below w.heap.size w w' := by
  go_enter Tryz.func33, Tryz.ntmps33
  go_wp2_with (go_at_call 56; refine (Tryz.as_nil _ _).mono ?_; rintro e w' ⟨rfl, rfl⟩)
  go_ret
  exact ⟨rfl, (Below.refl _ _).alloc (Nat.le_refl _) _⟩
set_option maxHeartbeats 1000000 in
theorem Tryz.errnoOf_fault (n : Int) (x y : ByteArray) (t : TypeId) (v : Value) (w : World) (henv : Tryz.Env w) : Calls Tryz.prog 33 #[.iface 96 (.agg #[.int .i64 n, .string x, .string y, .iface t v])] w fun e w' => e = .returned (.int .i64 n) ∧ Below w.heap.size w w' := by
  have HV : Hid (Tryz.Env (w.alloc (.cells #[.int .i64 0, .string ⟨#[]⟩, .string ⟨#[]⟩, .nilIface] 96))) := henv.below ((Below.refl _ _).alloc (Nat.le_refl _) _)
  have hgz := henv.size
  have HC : Hid (Calls Tryz.prog 56 #[.iface 96 (.agg #[.int .i64 n, .string x, .string y, .iface t v]), .iface 98 (.pointer (some ⟨w.heap.size, 0, none⟩))] (w.alloc (.cells #[.int .i64 0, .string ⟨#[]⟩, .string ⟨#[]⟩, .nilIface] 96)) fun ev w' => ev = .returned (.bool true) ∧ w'.cell? ⟨w.heap.size, 0, none⟩ = some (.int .i64 n) ∧ Below w.heap.size (w.alloc (.cells #[.int .i64 0, .string ⟨#[]⟩, .string ⟨#[]⟩, .nilIface] 96)) w') :=
    Tryz.as_hit w.heap.size n x y ⟨#[]⟩ ⟨#[]⟩ t v .nilIface 0 _ HV.out.errType (by first | (simp; done) | (simp; omega)) (by simp) (by simp) (by simp) (by simp) (by simp) (by simp) (by simp) (by simp) (by simp)
  clear henv hgz
  go_enter Tryz.func33, Tryz.ntmps33
  go_wp2_with (go_at_call 56; refine HC.out.mono ?_)
  rintro e W1 ⟨rfl, hc, hb⟩
  go_wp2
  go_ret
  exact ⟨rfl, ((Below.refl _ _).alloc (Nat.le_refl _) _).trans hb⟩
set_option maxHeartbeats 1000000 in
theorem Tryz.tell_special (s : ByteArray) (w : World) (hs : s.size < 4294967281) (hpf : Lib.hasPrefix s.data.toList (⟨#[91]⟩ : ByteArray).data.toList = false) (henv : Tryz.Env w) :
    Calls Tryz.prog 55 #[.string s, .bool true] w fun e w' => StrRes (hostSpecial (unesc s.data.toList)) e ∧ Below w.heap.size w w' := by
  obtain ⟨m, hm⟩ := henv.maxLen
  have hz := henv.size
  have HV : Hid (Tryz.Env w) := henv
  have HM : Hid (w.cell? ⟨16, 0, none⟩ = some (.int .i64 m)) := hm
  have HP : Hid (Lib.hasPrefix s.data.toList (⟨#[91]⟩ : ByteArray).data.toList = false) := hpf
  have hul : (unesc s.data.toList).length ≤ s.size := by
    have := unesc_len s.data.toList.length s.data.toList (Nat.le_refl _)
    simpa using this
  clear henv hm hpf
  go_enter Tryz.func55, Tryz.ntmps55
  go_wp2_with (go_at_call 82; refine (Tryz.prefix_no _ _ _ HP.out).mono ?_; rintro e w' ⟨rfl, rfl⟩)
  refine (Tryz.undo_any s m _ hs HM.out (by omega)).mono ?_
  rintro e W1 ⟨rfl, b1⟩
  have HV1 : Hid (Tryz.Env W1) := HV.out.below b1
  have HC : Hid (Calls Tryz.prog 84 #[.string ⟨(unesc s.data.toList).toArray⟩] W1 fun e w' => StrRes (hostSpecial (unesc s.data.toList)) e ∧ Below W1.heap.size W1 w') :=
    Tryz.tellSpecial_any ⟨(unesc s.data.toList).toArray⟩ W1 (by rw [size_mk]; omega) HV1.out
  cases ho : hostSpecial (unesc s.data.toList) with
  | none =>
    have HO : Hid (hostSpecial (unesc s.data.toList) = none) := ho
    clear ho
    go_wp2_with fail
    refine HC.out.mono ?_
    rw [HO.out]
    rintro e W2 ⟨⟨te, ve, rfl⟩, b2⟩
    go_wp2
    go_ret2
    rw [HO.out]
    exact ⟨⟨_, _, rfl⟩, b1.trans (b2.mono b1.size)⟩
  | some l =>
    have HO : Hid (hostSpecial (unesc s.data.toList) = some l) := ho
    clear ho
    go_wp2_with fail
    refine HC.out.mono ?_
    rw [HO.out]
    rintro e W2 ⟨rfl, b2⟩
    go_wp2
    go_ret2
    rw [HO.out]
    exact ⟨rfl, b1.trans (b2.mono b1.size)⟩
def Tryz.TellRes (s : ByteArray) (o : Option (List UInt8)) (e : Ending) : Prop :=
  match o with
  | some l => e = .returned (.tuple #[.string ⟨l.toArray⟩, .nilIface])
  | none => ∃ t v, e = .returned (.tuple #[.string ⟨#[]⟩, .iface 96 (.agg #[.int .i64 4, .string ⟨#[104, 111, 115, 116]⟩, .string s, .iface t v])])
set_option maxHeartbeats 1000000 in
theorem Tryz.Tell_of (s : ByteArray) (sp : Bool) (o : Option (List UInt8)) (w : World)
    (ht : Calls Tryz.prog 55 #[.string s, .bool sp] w fun e w' => StrRes o e ∧ Below w.heap.size w w') :
    Calls Tryz.prog 32 #[.string s, .bool sp] w fun e w' => Tryz.TellRes s o e ∧ Below w.heap.size w w' := by
  have HT : Hid (Calls Tryz.prog 55 #[.string s, .bool sp] w fun e w' => StrRes o e ∧ Below w.heap.size w w') := ht
  clear ht
  cases ho : o with
  | none =>
    subst ho
    go_enter Tryz.func32, Tryz.ntmps32
    go_wp2_with fail
    refine HT.out.mono ?_
    rintro e W2 ⟨⟨te, ve, rfl⟩, b2⟩
    go_wp2
    go_ret2
    exact ⟨⟨_, _, rfl⟩, b2⟩
  | some l =>
    subst ho
    go_enter Tryz.func32, Tryz.ntmps32
    go_wp2_with fail
    refine HT.out.mono ?_
    rintro e W2 ⟨rfl, b2⟩
    go_wp2
    go_ret2
    exact ⟨rfl, b2⟩
def HostRes (o : Option (List UInt8)) : Ending :=
  match o with
  | some l => .returned (.tuple #[.string ⟨l.toArray⟩, .int .i64 0])
  | none => .returned (.tuple #[.string ⟨#[]⟩, .int .i64 4])
theorem Tryz.isLong_no (s : ByteArray) (w : World) (hs : s.size ≤ 2000) : Calls Tryz.prog 31 #[.string s] w fun e w' => e = .returned (.bool false) ∧ w' = w := by
  go_enter Tryz.func31, Tryz.ntmps31
  go_wp2
  go_ret
  refine ⟨?_, rfl⟩
  simp
  omega
theorem Tryz.isLong_yes (s : ByteArray) (w : World) (hs : 2000 < s.size) (hm : s.size ≤ maxLen) : Calls Tryz.prog 31 #[.string s] w fun e w' => e = .returned (.bool true) ∧ w' = w := by
  unfold maxLen at hm
  go_enter Tryz.func31, Tryz.ntmps31
  go_wp2
  go_ret
  refine ⟨?_, rfl⟩
  simp
  omega
set_option maxHeartbeats 1000000 in
theorem Tryz.Host_of (s : ByteArray) (sp : Bool) (o : Option (List UInt8)) (w : World) (henv : Tryz.Env w) (hs : s.size ≤ 2000)
    (ht : Calls Tryz.prog 55 #[.string s, .bool sp] w fun e w' => StrRes o e ∧ Below w.heap.size w w') :
    Calls Tryz.prog 18 #[.string s, .bool sp] w fun e w' => e = HostRes o ∧ Below w.heap.size w w' := by
  have HT : Hid (Calls Tryz.prog 32 #[.string s, .bool sp] w fun e w' => Tryz.TellRes s o e ∧ Below w.heap.size w w') := Tryz.Tell_of s sp o w ht
  have HV : Hid (Tryz.Env w) := henv
  clear ht henv
  cases ho : o with
  | none =>
    subst ho
    go_enter Tryz.func18, Tryz.ntmps18
    go_wp2_with fail
    refine (Tryz.isLong_no s w hs).mono ?_
    rintro e W0 ⟨rfl, hw0⟩
    have hw0 := hw0.symm
    subst hw0
    go_wp2_with fail
    refine HT.out.mono ?_
    rintro e W2 ⟨⟨te, ve, rfl⟩, b2⟩
    have HV2 : Hid (Tryz.Env W2) := HV.out.below b2
    go_wp2_with fail
    refine (Tryz.errnoOf_fault 4 _ _ te ve _ HV2.out).mono ?_
    rintro e W3 ⟨rfl, b3⟩
    go_wp2
    go_ret2
    exact ⟨rfl, b2.trans (b3.mono b2.size)⟩
  | some l =>
    subst ho
    go_enter Tryz.func18, Tryz.ntmps18
    go_wp2_with fail
    refine (Tryz.isLong_no s w hs).mono ?_
    rintro e W0 ⟨rfl, hw0⟩
    have hw0 := hw0.symm
    subst hw0
    go_wp2_with fail
    refine HT.out.mono ?_
    rintro e W2 ⟨rfl, b2⟩
    go_wp2_with fail
    refine (Tryz.errnoOf_nil _).mono ?_
    rintro e W3 ⟨rfl, b3⟩
    go_wp2
    go_ret2
    exact ⟨rfl, b2.trans (b3.mono b2.size)⟩
set_option maxHeartbeats 1000000 in
theorem Tryz.Host_long (s : ByteArray) (sp : Bool) (w : World) (hs : 2000 < s.size) (hm : s.size ≤ maxLen) :
    Calls Tryz.prog 18 #[.string s, .bool sp] w fun e w' => e = .returned (.tuple #[.string ⟨#[]⟩, .int .i64 1]) ∧ w' = w := by
  go_enter Tryz.func18, Tryz.ntmps18
  go_wp2_with fail
  refine (Tryz.isLong_yes s w hs hm).mono ?_
  rintro e W0 ⟨rfl, hw0⟩
  have hw0 := hw0.symm
  subst hw0
  go_wp2
  go_ret2
  exact ⟨rfl, rfl⟩
end Go.Proofs
namespace Go.Proofs
open Go.RowKit Go.Moor
theorem app_mk (l m : List UInt8) : (⟨l.toArray⟩ : ByteArray) ++ ⟨m.toArray⟩ = ⟨(l ++ m).toArray⟩ := by
  apply Tryz.bytes_ext
  simp
def lowHex : ByteArray := ⟨#[48, 49, 50, 51, 52, 53, 54, 55, 56, 57, 97, 98, 99, 100, 101, 102]⟩
theorem low_fin : ∀ n : Fin 16, (lowHex.extract n.val (n.val + 1)).data.toList = [hexL n.val] := by decide +kernel
theorem low_at (n : Nat) (h : n < 16) : lowHex.extract n (n + 1) = ⟨[hexL n].toArray⟩ := by
  apply Tryz.bytes_ext
  exact low_fin ⟨n, h⟩
theorem wrap_i64 (x : Int) (h0 : 0 ≤ x) (h1 : x < 4294967297) : IntKind.i64.wrap x = x := by
  simp only [IntKind.wrap, IntKind.bits, IntKind.signed]
  simp
  omega
end Go.Proofs
namespace Go.Proofs
open Go.RowKit Go.Moor
def qL : List UInt8 := [32, 34, 35, 60, 62]
def pL : List UInt8 := [63, 94, 96, 123, 125]
def uL : List UInt8 := [47, 58, 59, 61, 64, 91, 92, 93, 124]
def fL : List UInt8 := [32, 34, 60, 62, 96]
def kL : List UInt8 := [36, 37, 38, 43, 44]
def memIn (s : Nat) (c : UInt8) : Bool :=
  match s with
  | 0 => false
  | 1 => fL.contains c
  | 2 => qL.contains c
  | 3 => qL.contains c || c == 39
  | 4 => qL.contains c || pL.contains c
  | 5 => qL.contains c || pL.contains c || uL.contains c
  | _ => qL.contains c || pL.contains c || uL.contains c || kL.contains c
theorem mem_fin : ∀ s : Fin 7, ∀ c : Fin 256, holdsB s.val c.val = if c.val < 32 ∨ 126 < c.val then true else memIn s.val c.val.toUInt8 := by decide +kernel
theorem mem_is (s : Nat) (hs : s < 7) (c : UInt8) : holdsB s c.toNat = if c.toNat < 32 ∨ 126 < c.toNat then true else memIn s c := by
  have h := mem_fin ⟨s, hs⟩ ⟨c.toNat, c.toNat_lt⟩
  simp only at h
  have e : c.toNat.toUInt8 = c := by simp
  rw [e] at h
  exact h
set_option maxHeartbeats 4000000 in
theorem Tryz.rmember_any (c : UInt8) (s : Nat) (hs : s < 7) (w : World) : Calls Tryz.prog 63 #[.int .u8 c.toNat, .int .i64 (s : Int)] w fun e w' => e = .returned (.bool (holdsB s c.toNat)) ∧ w' = w := by
  have HM := mem_is s hs c
  by_cases h1 : (c.toNat : Int) < 32
  · have HR : Hid (holdsB s c.toNat = true) := by show _ = _; rw [HM, if_pos (by omega)]
    rw [HR.out]
    clear HM HR
    go_enter Tryz.func63, Tryz.ntmps63
    go_wp2
    go_ret
    exact ⟨rfl, rfl⟩
  · by_cases h2 : (126 : Int) < (c.toNat : Int)
    · have HR : Hid (holdsB s c.toNat = true) := by show _ = _; rw [HM, if_pos (by omega)]
      rw [HR.out]
      clear HM HR
      go_enter Tryz.func63, Tryz.ntmps63
      go_wp2
      go_ret
      exact ⟨rfl, rfl⟩
    · rw [if_neg (by omega)] at HM
      rw [HM]
      clear HM
      have HQ : Hid (Calls Tryz.prog 110 #[.string ⟨#[32, 34, 35, 60, 62]⟩, .int .u8 c.toNat] w fun e w' => e = .returned (.bool (qL.contains c)) ∧ w' = w) := Tryz.rhas_any ⟨#[32, 34, 35, 60, 62]⟩ c w (by decide)
      have HP : Hid (Calls Tryz.prog 110 #[.string ⟨#[63, 94, 96, 123, 125]⟩, .int .u8 c.toNat] w fun e w' => e = .returned (.bool (pL.contains c)) ∧ w' = w) := Tryz.rhas_any ⟨#[63, 94, 96, 123, 125]⟩ c w (by decide)
      have HU : Hid (Calls Tryz.prog 110 #[.string ⟨#[47, 58, 59, 61, 64, 91, 92, 93, 124]⟩, .int .u8 c.toNat] w fun e w' => e = .returned (.bool (uL.contains c)) ∧ w' = w) := Tryz.rhas_any ⟨#[47, 58, 59, 61, 64, 91, 92, 93, 124]⟩ c w (by decide)
      have HF : Hid (Calls Tryz.prog 110 #[.string ⟨#[32, 34, 60, 62, 96]⟩, .int .u8 c.toNat] w fun e w' => e = .returned (.bool (fL.contains c)) ∧ w' = w) := Tryz.rhas_any ⟨#[32, 34, 60, 62, 96]⟩ c w (by decide)
      have HK : Hid (Calls Tryz.prog 110 #[.string ⟨#[36, 37, 38, 43, 44]⟩, .int .u8 c.toNat] w fun e w' => e = .returned (.bool (kL.contains c)) ∧ w' = w) := Tryz.rhas_any ⟨#[36, 37, 38, 43, 44]⟩ c w (by decide)
      have h39 : ((c.toNat : Int) == 39) = (c == 39) := by
        by_cases h : c = 39
        · rw [h]; rfl
        · have h2 : ¬ (c.toNat : Int) = 39 := fun e => h (UInt8.toNat_inj.1 (by show c.toNat = 39; omega))
          rw [beq_eq_false_iff_ne.2 h, beq_eq_false_iff_ne.2 h2]
      unfold memIn
      generalize qL.contains c = q at *
      generalize pL.contains c = p at *
      generalize uL.contains c = u at *
      generalize fL.contains c = f at *
      generalize kL.contains c = k at *
      generalize (c == 39) = t at *
      generalize (c.toNat : Int) = n at *
      obtain ⟨qp, hqp⟩ : ∃ qp, qp = (q || p) := ⟨_, rfl⟩
      simp only [← hqp]
      obtain ⟨qpu, hqpu⟩ : ∃ qpu, qpu = (qp || u) := ⟨_, rfl⟩
      simp only [← hqpu]
      have HQP : Hid (qp = (q || p)) := hqp
      have HQPU : Hid (qpu = (qp || u)) := hqpu
      clear hqp hqpu
      go_enter Tryz.func63, Tryz.ntmps63
      go_wp2_with fail
      refine HQ.out.mono ?_
      rintro e W0 ⟨rfl, hw0⟩
      have hw0 := hw0.symm
      subst hw0
      go_upto_region 4 with fail
      go_cut [6] (fun x wx => x = .bool qp ∧ wx = w)
      case first =>
        as_aux_lemma =>
          cases q with
          | true =>
            go_wp2_with fail
            go_meet
            exact ⟨by rw [HQP.out]; rfl, rfl⟩
          | false =>
            go_wp2_with fail
            refine HP.out.mono ?_
            rintro e W0 ⟨rfl, hw0⟩
            have hw0 := hw0.symm
            subst hw0
            go_wp2_with fail
            go_meet
            exact ⟨by rw [HQP.out]; rfl, rfl⟩
      case rest =>
      obtain ⟨hx, hwc⟩ := hcut
      subst hx
      have hwc := hwc.symm
      subst hwc
      go_upto_region 5 with fail
      go_cut [7] (fun x wx => x = .bool qpu ∧ wx = w)
      case first =>
        as_aux_lemma =>
          cases qp with
          | true =>
            go_wp2_with fail
            go_meet
            exact ⟨by rw [HQPU.out]; rfl, rfl⟩
          | false =>
            go_wp2_with fail
            refine HU.out.mono ?_
            rintro e W0 ⟨rfl, hw0⟩
            have hw0 := hw0.symm
            subst hw0
            go_wp2_with fail
            go_meet
            exact ⟨by rw [HQPU.out]; rfl, rfl⟩
      case rest =>
      obtain ⟨hx, hwc⟩ := hcut
      subst hx
      have hwc := hwc.symm
      subst hwc
      have hs7 : s = 0 ∨ s = 1 ∨ s = 2 ∨ s = 3 ∨ s = 4 ∨ s = 5 ∨ s = 6 := by omega
      rcases hs7 with rfl | rfl | rfl | rfl | rfl | rfl | rfl
      · go_wp2_with fail
        go_ret
        exact ⟨rfl, rfl⟩
      · go_wp2_with fail
        refine HF.out.mono ?_
        rintro e W0 ⟨rfl, hw0⟩
        have hw0 := hw0.symm
        subst hw0
        go_wp2_with fail
        go_ret
        exact ⟨rfl, rfl⟩
      · go_wp2_with fail
        go_ret
        exact ⟨rfl, rfl⟩
      · clear HQP
        cases q with
        | true =>
          go_wp2_with fail
          go_ret
          exact ⟨rfl, rfl⟩
        | false =>
          go_wp2_with fail
          go_ret
          exact ⟨rfl, rfl⟩
      · go_wp2_with fail
        go_ret
        exact ⟨rfl, rfl⟩
      · go_wp2_with fail
        go_ret
        exact ⟨rfl, rfl⟩
      · clear HQPU
        cases qpu with
        | true =>
          go_wp2_with fail
          go_ret
          exact ⟨rfl, rfl⟩
        | false =>
          go_wp2_with fail
          refine HK.out.mono ?_
          rintro e W0 ⟨rfl, hw0⟩
          have hw0 := hw0.symm
          subst hw0
          go_wp2_with fail
          go_ret
          exact ⟨rfl, rfl⟩
end Go.Proofs
namespace Go.Proofs
open Go.RowKit Go.Moor
theorem cell3 (w : World) (a b c : Value) (t : TypeId) (i : Nat) : (w.alloc (.cells #[a, b, c] t)).cell? ⟨w.heap.size, i, none⟩ = (#[a, b, c] : Array Value)[i]? := World.cell?_alloc_new w #[a, b, c] t i
set_option maxHeartbeats 1000000 in
theorem Tryz.rescaped_any (c : UInt8) (w : World) :
    Calls Tryz.prog 64 #[.int .u8 c.toNat] w fun e w' => e = .returned (.string ⟨#[37, hexCap (c.toNat / 16), hexCap (c.toNat % 16)]⟩) ∧ Below w.heap.size w w' := by
  have hc := c.toNat_lt
  have HC1 : Hid (Calls Tryz.prog 111 #[.int .u8 ((c.toNat / 16 : Nat) : Int)] w fun e w' => e = .returned (.int .u8 (hexCap (c.toNat / 16)).toNat) ∧ w' = w) := Tryz.rcapital_any _ (by omega) w
  have HC2 : Hid (Calls Tryz.prog 111 #[.int .u8 ((c.toNat % 16 : Nat) : Int)] w fun e w' => e = .returned (.int .u8 (hexCap (c.toNat % 16)).toNat) ∧ w' = w) := Tryz.rcapital_any _ (by omega) w
  generalize hexCap (c.toNat / 16) = x1 at *
  generalize hexCap (c.toNat % 16) = x2 at *
  have hcv : (convert 47 9 (.slice (some ⟨w.heap.size, 0, none⟩) 3 3)).run Tryz.prog (w.alloc (.cells #[.int .u8 37, .int .u8 x1.toNat, .int .u8 x2.toNat] 5)) = .ok (.string ⟨#[37, x1, x2]⟩) (w.alloc (.cells #[.int .u8 37, .int .u8 x1.toNat, .int .u8 x2.toNat] 5)) :=
    run_convert_bytes_back _ 47 9 5 ⟨w.heap.size, 0, none⟩ 3 [37, x1, x2] Tryz.underlying47 Tryz.underlying5 Tryz.underlying9 (fun i hi => by
      match i, hi with
      | 0, _ => exact cell3 w _ _ _ _ 0
      | 1, _ => exact cell3 w _ _ _ _ 1
      | 2, _ => exact cell3 w _ _ _ _ 2)
  obtain ⟨n, hn⟩ : ∃ n : Nat, n = c.toNat := ⟨_, rfl⟩
  rw [← hn] at HC1 HC2 hc ⊢
  have e1 : ((n / 16 : Nat) : Int) = (n : Int) / 16 := by omega
  have e2 : ((n % 16 : Nat) : Int) = (n : Int) % 16 := by omega
  rw [e1] at HC1
  rw [e2] at HC2
  clear e1 e2
  clear hn
  go_enter Tryz.func64, Tryz.ntmps64
  go_wp2_with fail
  refine HC1.out.mono ?_
  rintro e W0 ⟨rfl, hw0⟩
  have hw0 := hw0.symm
  subst hw0
  go_wp2_with fail
  refine HC2.out.mono ?_
  rintro e W0 ⟨rfl, hw0⟩
  have hw0 := hw0.symm
  subst hw0
  go_wp2_with fail
  go_ret
  exact ⟨rfl, (Below.refl _ _).alloc (Nat.le_refl _) _⟩
theorem take_next (l : List UInt8) (k : Nat) (h : k < l.length) : l.take (k + 1) = l.take k ++ [l[k]] := by
  rw [List.take_add_one, List.getElem?_eq_getElem h]
  rfl
theorem esc_next (s : Int) (l : List UInt8) (k : Nat) (h : k < l.length) : esc s (l.take (k + 1)) = esc s (l.take k) ++ escB s l[k] := by
  rw [take_next l k h]
  unfold esc
  rw [List.flatMap_append]
  simp
theorem esc_le3 (s : Int) (l : List UInt8) : (esc s l).length ≤ 3 * l.length := by
  induction l with
  | nil => simp [esc]
  | cons c l ih =>
    have h1 : (escB s c).length ≤ 3 := by unfold escB; split <;> simp
    have h2 : esc s (c :: l) = escB s c ++ esc s l := by simp [esc]
    rw [h2, List.length_append, List.length_cons]
    omega
theorem extract_one (s : ByteArray) (k : Nat) (h : k < s.size) : s.extract k (k + 1) = ⟨#[s[k]]⟩ := by
  apply ByteArray.ext
  apply Array.ext'
  have h2 : k < s.data.toList.length := by rw [Array.length_toList]; exact h
  rw [ByteArray.data_extract, Array.toList_extract, List.extract_eq_take_drop, show k + 1 - k = 1 by omega, List.drop_eq_getElem_cons h2]
  rfl
set_option maxHeartbeats 4000000 in
theorem Tryz.rEscape_any (s : ByteArray) (set : Int) (w : World) (hs : s.size ≤ 35184372088832) :
    Calls Tryz.prog 40 #[.string s, .int .i64 set] w fun e w' => e = .returned (.string ⟨(esc set s.data.toList).toArray⟩) ∧ Below w.heap.size w w' := by
  obtain ⟨l, hl⟩ : ∃ l, l = s.data.toList := ⟨_, rfl⟩
  have hlen : l.length = s.size := by rw [hl, Array.length_toList]; rfl
  have HG : Hid (∀ (k : Nat) (h : k < s.size) (h2 : k < l.length), l[k] = s[k]) := by
    intro k h h2
    subst hl
    simp
    rfl
  rw [← hl]
  have HME : Hid (∀ (c : UInt8) w1, 0 ≤ set → set ≤ 6 → Calls Tryz.prog 63 #[.int .u8 c.toNat, .int .i64 set] w1 fun e w' => e = .returned (.bool (holdsB set c.toNat)) ∧ w' = w1) := by
    intro c w1 h0 h6
    obtain ⟨n, rfl⟩ : ∃ n : Nat, set = n := ⟨set.toNat, by omega⟩
    exact Tryz.rmember_any c n (by omega) w1
  have HNO : Hid (¬ (0 ≤ set ∧ set ≤ 6) → ∀ c : UInt8, holdsB set c.toNat = false) := by
    intro h c
    unfold holdsB
    rw [Bool.and_eq_false_iff]
    left
    rw [Bool.and_eq_false_iff]
    by_cases h0 : 0 ≤ set
    · right; rw [decide_eq_false_iff_not]; omega
    · left; rw [decide_eq_false_iff_not]; omega
  have HE : Hid (∀ k, (esc set (l.take k)).length ≤ 3 * s.size) := by
    intro k
    have h1 := esc_le3 set (l.take k)
    have h2 : (l.take k).length ≤ l.length := by rw [List.length_take]; omega
    omega
  clear hl
  go_enter Tryz.func40, Tryz.ntmps40
  go_wp2_with fail
  go_loopw [5, 6] (fun o i wr => ∃ k : Nat, k ≤ s.size ∧ i = .int .i64 k ∧ o = .string ⟨(esc set (l.take k)).toArray⟩ ∧ Below w.heap.size w wr) (fun _ i _ => s.size - (intOf i).toNat)
  case atStart => exact ⟨0, Nat.zero_le _, rfl, rfl, Below.refl _ _⟩
  case round =>
    obtain ⟨k, hk, rfl, rfl, hb⟩ := hrel
    have HB : Hid (Below w.heap.size w wr) := hb
    clear hb
    by_cases hlt : k < s.size
    · have h2 : k < l.length := by omega
      have hg := HG.out k hlt h2
      have HNX : Hid (esc set (l.take (k + 1)) = esc set (l.take k) ++ escB set s[k]) := by show _ = _; rw [esc_next set l k h2, hg]
      have hel := HE.out k
      have hsz : (⟨(esc set (l.take k)).toArray⟩ : ByteArray).size = (esc set (l.take k)).length := size_mk _
      have hmem : 0 ≤ set → set ≤ 6 → Calls Tryz.prog 63 #[.int .u8 s[k].toNat, .int .i64 set] wr fun e w' => e = .returned (.bool (holdsB set s[k].toNat)) ∧ w' = wr := HME.out s[k] wr
      have HMEM : Hid _ := hmem
      have HES : Hid (Calls Tryz.prog 64 #[.int .u8 s[k].toNat] wr fun e w' => e = .returned (.string ⟨#[37, hexCap (s[k].toNat / 16), hexCap (s[k].toNat % 16)]⟩) ∧ Below wr.heap.size wr w') := Tryz.rescaped_any s[k] wr
      have HX : Hid (s.extract k (k + 1) = ⟨#[s[k]]⟩) := extract_one s k hlt
      have hnof := HNO.out
      have HNOF : Hid (¬ (0 ≤ set ∧ set ≤ 6) → holdsB set s[k].toNat = false) := fun h => HNO.out h s[k]
      have HA1 : Hid (holdsB set s[k].toNat = true → (⟨(esc set (l.take k)).toArray⟩ : ByteArray) ++ ⟨#[37, hexCap (s[k].toNat / 16), hexCap (s[k].toNat % 16)]⟩ = ⟨(esc set (l.take (k + 1))).toArray⟩) := by
        intro h
        rw [HNX.out]
        unfold escB
        rw [if_pos h]
        exact app_mk _ [37, hexCap (s[k].toNat / 16), hexCap (s[k].toNat % 16)]
      have HA2 : Hid (holdsB set s[k].toNat = false → (⟨(esc set (l.take k)).toArray⟩ : ByteArray) ++ s.extract k (k + 1) = ⟨(esc set (l.take (k + 1))).toArray⟩) := by
        intro h
        rw [HNX.out, HX.out]
        unfold escB
        rw [if_neg (by simp [h])]
        exact app_mk _ [s[k]]
      have zx : (s.extract k (k + 1)).size = 1 := by rw [HX.out]; rfl
      have ze : (⟨#[37, hexCap (s[k].toNat / 16), hexCap (s[k].toNat % 16)]⟩ : ByteArray).size = 3 := rfl
      generalize (⟨#[37, hexCap (s[k].toNat / 16), hexCap (s[k].toNat % 16)]⟩ : ByteArray) = ex at *
      generalize (⟨(esc set (l.take k)).toArray⟩ : ByteArray) = acc at *
      have g1 : ∀ W : World, (Op.stringOp .add acc ex).run Tryz.prog W = .ok (.string (acc ++ ex)) W := fun W => run_string_add_sum W _ _ (by omega)
      have g2 : ∀ W : World, (Op.stringOp .add acc (s.extract k (k + 1))).run Tryz.prog W = .ok (.string (acc ++ s.extract k (k + 1))) W := fun W => run_string_add_sum W _ _ (by omega)
      clear hg hel hsz hmem hnof zx ze HG HNX HE HX
      have hk0 : (0 : Int) ≤ (k : Int) := by omega
      have hk1 : (k : Int) < (s.size : Int) := by omega
      by_cases h0 : 0 ≤ set
      · by_cases h6 : set ≤ 6
        · have HM2 : Hid _ := HMEM.out h0 h6
          cases hh : holdsB set s[k].toNat with
          | true =>
            have HA : Hid _ := HA1.out hh
            rw [hh] at HM2
            clear HA1 HA2 HMEM HNOF hh
            go_wp2_with fail
            refine Calls.mono HM2.out ?_
            rintro e W0 ⟨rfl, hw0⟩
            have hw0 := hw0.symm
            subst hw0
            go_wp2_with fail
            refine HES.out.mono ?_
            rintro e w2 ⟨rfl, b2⟩
            have HB2 : Hid (Below w.heap.size w w2) := HB.out.trans (b2.mono HB.out.size)
            clear b2
            go_wp2
            go_roundw
            case rel => exact ⟨k + 1, by omega, by go_num, congrArg Value.string HA.out, HB2.out⟩
            case measure => (simp [intOf]; try omega)
          | false =>
            have HA : Hid _ := HA2.out hh
            rw [hh] at HM2
            clear HA1 HA2 HMEM HNOF hh
            go_wp2_with fail
            refine Calls.mono HM2.out ?_
            rintro e W0 ⟨rfl, hw0⟩
            have hw0 := hw0.symm
            subst hw0
            go_wp2
            go_roundw
            case rel => exact ⟨k + 1, by omega, by go_num, congrArg Value.string HA.out, HB.out⟩
            case measure => (simp [intOf]; try omega)
        · have HA : Hid _ := HA2.out (HNOF.out (by omega))
          clear HA1 HA2 HMEM HNOF
          go_wp2
          go_roundw
          case rel => exact ⟨k + 1, by omega, by go_num, congrArg Value.string HA.out, HB.out⟩
          case measure => (simp [intOf]; try omega)
      · have HA : Hid _ := HA2.out (HNOF.out (by omega))
        clear HA1 HA2 HMEM HNOF
        go_wp2
        go_roundw
        case rel => exact ⟨k + 1, by omega, by go_num, congrArg Value.string HA.out, HB.out⟩
        case measure => (simp [intOf]; try omega)
    · have HQ : Hid (l.take k = l) := List.take_of_length_le (by omega)
      rw [HQ.out]
      go_wp2
      go_ret
      exact ⟨rfl, HB.out⟩
end Go.Proofs
namespace Go.Proofs
open Go.RowKit Go.Moor
theorem refHex_ok (c : UInt8) (h : hexVal c.toNat < 16) : refHex c = hexVal c.toNat ∧ 0 ≤ refHex c ∧ refHex c ≤ 15 := by
  have := hexVal_range c.toNat
  unfold refHex
  rw [if_pos h]
  omega
theorem refHex_no (c : UInt8) (h : ¬ hexVal c.toNat < 16) : refHex c = -1 := by
  unfold refHex
  rw [if_neg h]
theorem pairB_val (a b : UInt8) (ha : hexVal a.toNat < 16) (hb : hexVal b.toNat < 16) : ((pairB a b).toNat : Int) = 16 * refHex a + refHex b := by
  have h1 := refHex_ok a ha
  have h2 := refHex_ok b hb
  have ra := hexVal_range a.toNat
  have rb := hexVal_range b.toNat
  rw [h1.1, h2.1]
  unfold pairB
  have e : (16 * (hexVal a.toNat).toNat + (hexVal b.toNat).toNat).toUInt8.toNat = (16 * (hexVal a.toNat).toNat + (hexVal b.toNat).toNat) % 256 := rfl
  rw [e]
  omega
theorem drop_cons (l : List UInt8) (k : Nat) (h : k < l.length) : l.drop k = l[k] :: l.drop (k + 1) := List.drop_eq_getElem_cons h
theorem unesc_three' (c a b : UInt8) (r : List UInt8) : unesc (c :: a :: b :: r) = if c = 37 then (if twoHex (a :: b :: r) then pairB a b :: unesc r else 37 :: unesc (a :: b :: r)) else c :: unesc (a :: b :: r) := by
  rw [unesc]
theorem unesc_hit (c a b : UInt8) (r : List UInt8) (hc : c = 37) (ha : hexVal a.toNat < 16) (hb : hexVal b.toNat < 16) : unesc (c :: a :: b :: r) = pairB a b :: unesc r := by
  have : twoHex (a :: b :: r) = true := by simp [twoHex, ha, hb]
  rw [unesc_three', if_pos hc, if_pos this]
theorem unesc_miss (c a b : UInt8) (r : List UInt8) (h : ¬ (hexVal a.toNat < 16 ∧ hexVal b.toNat < 16)) : unesc (c :: a :: b :: r) = c :: unesc (a :: b :: r) := by
  have : ¬ twoHex (a :: b :: r) = true := by
    intro h2
    simp only [twoHex, Bool.and_eq_true, decide_eq_true_eq] at h2
    exact h h2
  rw [unesc_three']
  split
  · rename_i hc
    first | rw [if_neg this, hc] | rw [hc]
  · rfl
theorem unesc_few (c : UInt8) (l : List UInt8) (h : c ≠ 37 ∨ l.length < 2) : unesc (c :: l) = c :: unesc l := by
  rcases h with h | h
  · exact unesc_ne c l h
  · match l, h with
    | [], _ => rfl
    | [a], _ => rfl
theorem cell1 (w : World) (a : Value) (t : TypeId) (i : Nat) : (w.alloc (.cells #[a] t)).cell? ⟨w.heap.size, i, none⟩ = (#[a] : Array Value)[i]? := World.cell?_alloc_new w #[a] t i
theorem Tryz.one_text (x : UInt8) (n : Int) (hx : (x.toNat : Int) = n) (w : World) : (convert 47 9 (.slice (some ⟨w.heap.size, 0, none⟩) 1 1)).run Tryz.prog (w.alloc (.cells #[.int .u8 n] 5)) = .ok (.string ⟨#[x]⟩) (w.alloc (.cells #[.int .u8 n] 5)) :=
  run_convert_bytes_back _ 47 9 5 ⟨w.heap.size, 0, none⟩ 1 [x] Tryz.underlying47 Tryz.underlying5 Tryz.underlying9 (fun i hi => by
    match i, hi with
    | 0, _ =>
      refine (cell1 w _ _ 0).trans ?_
      show some (Value.int .u8 n) = some (Value.int .u8 (x.toNat : Int))
      rw [hx])
set_option maxHeartbeats 4000000 in
set_option maxRecDepth 4000 in
theorem Tryz.rUnescape_any (s : ByteArray) (w : World) (hs : s.size ≤ 35184372088832) :
    Calls Tryz.prog 42 #[.string s] w fun e w' => e = .returned (.string ⟨(unesc s.data.toList).toArray⟩) ∧ Below w.heap.size w w' := by
  obtain ⟨l, hl⟩ : ∃ l, l = s.data.toList := ⟨_, rfl⟩
  have hlen : l.length = s.size := by rw [hl, Array.length_toList]; rfl
  have HG : Hid (∀ (k : Nat) (h : k < s.size), l.drop k = s[k] :: l.drop (k + 1)) := by
    intro k h
    subst hl
    rw [drop_cons _ k (by rw [Array.length_toList]; exact h)]
    rfl
  have HLN : Hid (l.length = s.size) := hlen
  rw [← hl]
  have HHX : Hid (∀ (c : UInt8) w1, Calls Tryz.prog 66 #[.int .u8 c.toNat] w1 fun e w' => e = .returned (.int .i64 (refHex c)) ∧ w' = w1) := fun c w1 => Tryz.rhex_any c w1
  clear hl hlen
  go_enter Tryz.func42, Tryz.ntmps42
  go_wp2_with fail
  go_loopw [3, 4] (fun o i wr => ∃ (k : Nat) (a : List UInt8), k ≤ s.size ∧ i = .int .i64 k ∧ o = .string ⟨a.toArray⟩ ∧ a.length ≤ k ∧ a ++ unesc (l.drop k) = unesc l ∧ Below w.heap.size w wr) (fun _ i _ => s.size - (intOf i).toNat)
  case atStart => exact ⟨0, [], Nat.zero_le _, rfl, rfl, by simp, rfl, Below.refl _ _⟩
  case round =>
    obtain ⟨k, a, hk, rfl, rfl, hal, hrest, hb⟩ := hrel
    have HB : Hid (Below w.heap.size w wr) := hb
    have HRE : Hid (a ++ unesc (l.drop k) = unesc l) := hrest
    clear hb hrest
    by_cases hlt : k < s.size
    · have HD : Hid (l.drop k = s[k] :: l.drop (k + 1)) := HG.out k hlt
      have HX : Hid (s.extract k (k + 1) = ⟨#[s[k]]⟩) := extract_one s k hlt
      have HA2 : Hid ((⟨a.toArray⟩ : ByteArray) ++ s.extract k (k + 1) = ⟨(a ++ [s[k]]).toArray⟩) := by show _ = _; rw [HX.out]; exact app_mk a [s[k]]
      have HONE : Hid (unesc (s[k] :: l.drop (k + 1)) = s[k] :: unesc (l.drop (k + 1)) → (a ++ [s[k]]) ++ unesc (l.drop (k + 1)) = unesc l) := by
        intro h
        rw [← HRE.out, HD.out, h]
        simp
      have hsz : (⟨a.toArray⟩ : ByteArray).size = a.length := size_mk _
      have zx : (s.extract k (k + 1)).size = 1 := by rw [HX.out]; rfl
      have g2 : ∀ W : World, (Op.stringOp .add ⟨a.toArray⟩ (s.extract k (k + 1))).run Tryz.prog W = .ok (.string (⟨a.toArray⟩ ++ s.extract k (k + 1))) W := fun W => run_string_add_sum W _ _ (by omega)
      have hk0 : (0 : Int) ≤ (k : Int) := by omega
      have hk1 : (k : Int) < (s.size : Int) := by omega
      by_cases hc : s[k] = 37
      · have hcb : ((s[k].toNat : Int) == 37) = true := by rw [hc]; rfl
        by_cases h2 : k + 2 < s.size
        · have h2i : (k : Int) + 2 < (s.size : Int) := by omega
          have HD1 : Hid (l.drop (k + 1) = s[k + 1] :: l.drop (k + 2)) := HG.out (k + 1) (by omega)
          have HD2 : Hid (l.drop (k + 2) = s[k + 2] :: l.drop (k + 3)) := HG.out (k + 2) h2
          have HH1 : Hid (Calls Tryz.prog 66 #[.int .u8 s[k + 1].toNat] wr fun e w' => e = .returned (.int .i64 (refHex s[k + 1])) ∧ w' = wr) := HHX.out _ wr
          have HH2 : Hid (Calls Tryz.prog 66 #[.int .u8 s[k + 2].toNat] wr fun e w' => e = .returned (.int .i64 (refHex s[k + 2])) ∧ w' = wr) := HHX.out _ wr
          have hw1 : wrap64 ((k : Int) + 1) = (k : Int) + 1 := by unfold wrap64; omega
          have hw2 : wrap64 ((k : Int) + 2) = (k : Int) + 2 := by unfold wrap64; omega
          by_cases hx : hexVal s[k + 1].toNat < 16 ∧ hexVal s[k + 2].toNat < 16
          · obtain ⟨hx1, hx2⟩ := hx
            have hr1 := (refHex_ok _ hx1).2
            have hr2 := (refHex_ok _ hx2).2
            have hpv := pairB_val s[k + 1] s[k + 2] hx1 hx2
            have HFIN : Hid ((a ++ [pairB s[k + 1] s[k + 2]]) ++ unesc (l.drop (k + 3)) = unesc l) := by
              show _ = _
              rw [← HRE.out, HD.out, HD1.out, HD2.out, unesc_hit _ _ _ _ hc hx1 hx2]
              simp
            have HA1 : Hid ((⟨a.toArray⟩ : ByteArray) ++ ⟨#[pairB s[k + 1] s[k + 2]]⟩ = ⟨(a ++ [pairB s[k + 1] s[k + 2]]).toArray⟩) := app_mk a [pairB s[k + 1] s[k + 2]]
            generalize pairB s[k + 1] s[k + 2] = x at *
            generalize refHex s[k + 1] = r1 at *
            generalize refHex s[k + 2] = r2 at *
            have HCV : Hid _ := Tryz.one_text x (16 * r1 + r2) hpv wr
            have G1 : Hid (∀ W : World, (Op.stringOp .add ⟨a.toArray⟩ ⟨#[x]⟩).run Tryz.prog W = .ok (.string (⟨a.toArray⟩ ++ ⟨#[x]⟩)) W) := fun W => run_string_add_sum W _ _ (by rw [hsz]; show _ + 1 ≤ _; omega)
            have HR1 : Hid (0 ≤ r1 ∧ r1 ≤ 15) := hr1
            have HR2 : Hid (0 ≤ r2 ∧ r2 ≤ 15) := hr2
            clear hr1 hr2
            clear hsz zx hc hx1 hx2 HONE HA2
            clear hpv
            go_wp2_with fail
            refine HH1.out.mono ?_
            rintro e W0 ⟨rfl, hw0⟩
            have hw0 := hw0.symm
            subst hw0
            go_wp2_with fail
            refine HH2.out.mono ?_
            rintro e W0 ⟨rfl, hw0⟩
            have hw0 := hw0.symm
            subst hw0
            obtain ⟨hr1a, hr1b⟩ := HR1.out
            obtain ⟨hr2a, hr2b⟩ := HR2.out
            have hcv := HCV.out
            have g1 := G1.out
            go_wp2
            go_roundw
            case rel => exact ⟨k + 3, a ++ [x], by omega, by go_num, congrArg Value.string HA1.out, by simp; omega, HFIN.out, HB.out.alloc HB.out.size _⟩
            case measure => (simp [intOf]; try omega)
          · have HF : Hid _ := HONE.out (by rw [HD1.out, HD2.out]; exact unesc_miss _ _ _ _ hx)
            have hrr : ¬ 0 ≤ refHex s[k + 1] ∨ (0 ≤ refHex s[k + 1] ∧ ¬ 0 ≤ refHex s[k + 2]) := by
              by_cases hx1 : hexVal s[k + 1].toNat < 16
              · right
                refine ⟨(refHex_ok _ hx1).2.1, ?_⟩
                rw [refHex_no _ (fun h => hx ⟨hx1, h⟩)]
                decide
              · left
                rw [refHex_no _ hx1]
                decide
            generalize refHex s[k + 1] = r1 at *
            generalize refHex s[k + 2] = r2 at *
            clear hsz zx hc hx HONE
            rcases hrr with hr | ⟨hr, hr2⟩
            all_goals
              go_wp2_with fail
              refine HH1.out.mono ?_
              rintro e W0 ⟨rfl, hw0⟩
              have hw0 := hw0.symm
              subst hw0
              go_wp2_with fail
              refine HH2.out.mono ?_
              rintro e W0 ⟨rfl, hw0⟩
              have hw0 := hw0.symm
              subst hw0
              go_wp2
              go_roundw
              case rel => exact ⟨k + 1, a ++ [s[k]], by omega, by go_num, congrArg Value.string HA2.out, by simp; omega, HF.out, HB.out⟩
              case measure => (simp [intOf]; try omega)
        · have h2i : ¬ (k : Int) + 2 < (s.size : Int) := by omega
          have HF : Hid _ := HONE.out (unesc_few _ _ (Or.inr (by have := HLN.out; rw [List.length_drop]; omega)))
          clear hsz zx hc
          go_wp2
          go_roundw
          case rel => exact ⟨k + 1, a ++ [s[k]], by omega, by go_num, congrArg Value.string HA2.out, by simp; omega, HF.out, HB.out⟩
          case measure => (simp [intOf]; try omega)
      · have hcb : ((s[k].toNat : Int) == 37) = false := by
          rw [beq_eq_false_iff_ne]
          intro h
          exact hc (UInt8.toNat_inj.1 (by show s[k].toNat = 37; omega))
        have HF : Hid _ := HONE.out (unesc_few _ _ (Or.inl hc))
        clear hsz zx
        go_wp2
        go_roundw
        case rel => exact ⟨k + 1, a ++ [s[k]], by omega, by go_num, congrArg Value.string HA2.out, by simp; omega, HF.out, HB.out⟩
        case measure => (simp [intOf]; try omega)
    · have HQ : Hid (a = unesc l) := by
        show _ = _
        have h := HRE.out
        rw [List.drop_eq_nil_of_le (by have := HLN.out; omega)] at h
        simpa [unesc] using h
      go_wp2
      go_ret
      rw [← HQ.out]
      exact ⟨rfl, HB.out⟩
end Go.Proofs
