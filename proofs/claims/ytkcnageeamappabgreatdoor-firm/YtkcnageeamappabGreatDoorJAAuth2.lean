/-
  What host.tellPlain, host.tell, host.Tell and moor.Host answer, for every text, special or not.
-/
import Derived.Test.YtkcnageeamappabGreatDoorJSBrack
import Derived.Test.YtkcnageeamappabGreatDoorJAPort
namespace Go.Proofs
open Go.RowKit Go.Moor

theorem any_badP (s : ByteArray) (k : Nat) (h : k < s.size) (hb : badP s[k] = true) : s.data.toList.any badP = true := by
  rw [List.any_eq_true]
  exact ⟨s[k], List.getElem_mem (l := s.data.toList) (n := k) (by simpa using h), hb⟩
theorem any_goodP (s : ByteArray) (h : ∀ (j : Nat) (hj : j < s.size), badP s[j] = false) : s.data.toList.any badP = false := by
  rw [List.any_eq_false]
  intro x hx
  obtain ⟨j, hj, rfl⟩ := List.getElem_of_mem hx
  have : badP s.data.toList[j] = false := h j (by simpa using hj)
  rw [this]; simp

set_option maxHeartbeats 4000000 in
theorem Tryz.tellPlain_any (s : ByteArray) (w : World) (hs : s.size < 4294967281) (henv : Tryz.Env w) :
    Calls Tryz.prog 63 #[.string s] w fun e w' => StrRes (hostPlain s.data.toList) e ∧ Below w.heap.size w w' := by
  have HT : Hid (Calls Tryz.prog 84 #[.string s, .int .i64 0] w fun e w' => e = .returned (.string ⟨(esc 0 s.data.toList).toArray⟩) ∧ Below w.heap.size w w') := Tryz.text_any s 0 w (by omega) henv.sets (by have := henv.size; omega)
  clear henv
  go_enter Tryz.func63, Tryz.ntmps63
  go_wp2_with fail
  go_loop [4] (fun i => ∃ k : Nat, k ≤ s.size ∧ i = .int .i64 k ∧ ∀ (j : Nat) (hj : j < s.size), j < k → badP s[j] = false) (fun i => s.size - (intOf i).toNat)
  case atStart => exact ⟨0, Nat.zero_le _, rfl, fun j hj h => by omega⟩
  case round =>
    obtain ⟨k, hk, rfl, hgood⟩ := hrel
    have HG : Hid (∀ (j : Nat) (hj : j < s.size), j < k → badP s[j] = false) := hgood
    clear hgood
    by_cases hlt : k < s.size
    · by_cases h1 : 0 ≤ Lib.indexByte forbP s[k]
      · have HR : Hid (hostPlain s.data.toList = none) := by
          show _ = _
          unfold hostPlain
          rw [if_pos (any_badP s k hlt (decide_eq_true h1))]
        go_wp2_with (go_at_call 96; refine (Tryz.indexByte_yes _ _ _ h1).mono ?_; rintro e w' ⟨⟨i, hi, rfl⟩, rfl⟩)
        go_quiet (fail)
        go_wp2
        go_ret2
        refine ⟨?_, Go.below_drewN (Below.refl _ _) _⟩
        rw [HR.out]
        exact ⟨_, _, rfl⟩
      · have HG2 : Hid (∀ (j : Nat) (hj : j < s.size), j < k + 1 → badP s[j] = false) := by
          intro j hj h
          by_cases e : j = k
          · subst e; exact decide_eq_false h1
          · exact HG.out j hj (by omega)
        go_wp2_with (go_at_call 96; refine (Tryz.indexByte_no _ _ _ h1).mono ?_; rintro e w' ⟨⟨i, hi, rfl⟩, rfl⟩)
        go_round
        case rel => exact ⟨k + 1, by omega, by go_num, HG2.out⟩
        case measure => simp [intOf]; omega
    · have HR : Hid (hostPlain s.data.toList = some (esc 0 s.data.toList)) := by
        show _ = _
        unfold hostPlain
        rw [any_goodP s (fun j hj => HG.out j hj (by omega))]
        rfl
      clear HG
      go_wp2_with fail
      refine HT.out.mono ?_
      rintro e W1 ⟨rfl, b1⟩
      go_wp2
      go_ret2
      rw [HR.out]
      exact ⟨rfl, b1⟩

set_option maxHeartbeats 1000000 in
theorem Tryz.tell_plain (s : ByteArray) (w : World) (hs : s.size < 4294967281) (hpf : Lib.hasPrefix s.data.toList (⟨#[91]⟩ : ByteArray).data.toList = false) (henv : Tryz.Env w) :
    Calls Tryz.prog 34 #[.string s, .bool false] w fun e w' => StrRes (hostPlain s.data.toList) e ∧ Below w.heap.size w w' := by
  have HP : Hid (Lib.hasPrefix s.data.toList (⟨#[91]⟩ : ByteArray).data.toList = false) := hpf
  have HC : Hid (Calls Tryz.prog 63 #[.string s] w fun e w' => StrRes (hostPlain s.data.toList) e ∧ Below w.heap.size w w') := Tryz.tellPlain_any s w hs henv
  generalize hostPlain s.data.toList = o at *
  clear henv hpf
  go_enter Tryz.func34, Tryz.ntmps34
  go_wp2_with (go_at_call 59; refine (Tryz.prefix_no _ _ _ HP.out).mono ?_; rintro e w' ⟨rfl, rfl⟩)
  refine HC.out.mono ?_
  rintro e w1 ⟨hr, hb1⟩
  obtain ⟨ra, rb, rfl, hr⟩ := strRes_ret hr
  have HR : Hid (StrRes o (.returned (.tuple #[ra, rb]))) := hr
  clear hr
  go_wp2
  go_ret2
  exact ⟨HR.out, hb1⟩

theorem Tryz.tell_any (s : ByteArray) (sp : Bool) (w : World) (hs : s.size < 4294967281) (henv : Tryz.Env w) (htz : Tryz.Tz w) :
    Calls Tryz.prog 34 #[.string s, .bool sp] w fun e w' => StrRes (hostTell s.data.toList sp) e ∧ Below w.heap.size w w' := by
  unfold hostTell
  by_cases hp : Lib.hasPrefix s.data.toList [91] = true
  · rw [if_pos hp]
    refine Tryz.tell_bracket s sp w hs ?_ hp henv htz
    rw [Lib.size_eq]
    cases h : s.data.toList with
    | nil => rw [h] at hp; cases hp
    | cons c r => simp
  · have hp2 : Lib.hasPrefix s.data.toList [91] = false := Bool.eq_false_iff.2 hp
    rw [if_neg hp]
    cases sp with
    | true => exact Tryz.tell_special s w hs hp2 henv
    | false => exact Tryz.tell_plain s w hs hp2 henv
theorem Tryz.Tell_any (s : ByteArray) (sp : Bool) (w : World) (hs : s.size < 4294967281) (henv : Tryz.Env w) (htz : Tryz.Tz w) :
    Calls Tryz.prog 20 #[.string s, .bool sp] w fun e w' => Tryz.TellRes s (hostTell s.data.toList sp) e ∧ Below w.heap.size w w' :=
  Tryz.Tell_of s sp _ w (Tryz.tell_any s sp w hs henv htz)
theorem Tryz.Host_any (s : ByteArray) (sp : Bool) (w : World) (hs : s.size ≤ 2000) (henv : Tryz.Env w) (htz : Tryz.Tz w) :
    Calls Tryz.prog 9 #[.string s, .bool sp] w fun e w' => e = HostRes (hostTell s.data.toList sp) ∧ Below w.heap.size w w' :=
  Tryz.Host_of s sp _ w henv hs (Tryz.tell_any s sp w (by omega) henv htz)
end Go.Proofs
/-
  What tellHost and readAuthority of package address answer.
-/
namespace Go.Proofs
open Go.RowKit Go.Moor

/-- A text and no error, or an empty text and a fault with that number. -/
def Tryz.TextRes (n : Int) (o : Option Bs) (e : Ending) : Prop :=
  match o with
  | some l => e = .returned (.tuple #[.string ⟨l.toArray⟩, .nilIface])
  | none => ∃ x y t v, e = .returned (.tuple #[.string ⟨#[]⟩, .iface 77 (.agg #[.int .i64 n, .string x, .string y, .iface t v])])

theorem empty_no (l : Bs) (h : l ≠ []) : (⟨l.toArray⟩ : ByteArray).toList.isEmpty = false := by
  rw [Lib.toList_data]
  cases l with
  | nil => exact absurd rfl h
  | cons c r => rfl
theorem empty_yes : (⟨([] : Bs).toArray⟩ : ByteArray).toList.isEmpty = true := by rw [Lib.toList_data]; rfl

set_option maxHeartbeats 2000000 in
theorem Tryz.tellHost_any (t a sc : Bs) (w : World) (hs : t.length < 4294967281) (henv : Tryz.Env2 w) :
    Calls Tryz.prog 216 #[.string ⟨t.toArray⟩, .string ⟨a.toArray⟩, .string ⟨sc.toArray⟩] w fun e w' => Tryz.TextRes 4 (tellHost hostTell t a sc) e ∧ Below w.heap.size w w' := by
  have HS : Hid (Calls Tryz.prog 29 #[.string ⟨sc.toArray⟩] w fun e w' => e = .returned (.bool (special sc)) ∧ w' = w) := Tryz.isSpecial_any ⟨sc.toArray⟩ w
  have HT : Hid (Calls Tryz.prog 20 #[.string ⟨t.toArray⟩, .bool (special sc)] w fun e w' => Tryz.TellRes ⟨t.toArray⟩ (hostTell t (special sc)) e ∧ Below w.heap.size w w') := Tryz.Tell_any ⟨t.toArray⟩ (special sc) w (by rw [size_mk]; exact hs) henv.env henv.tz
  obtain ⟨te, ve, hce⟩ := henv.eHost
  by_cases hbad : t = [] ∧ a ≠ []
  · obtain ⟨rfl, ha⟩ := hbad
    have HE : Hid (tellHost hostTell [] a sc = none) := by show _ = _; unfold tellHost; rw [if_pos ⟨rfl, ha⟩]
    have e1 := empty_yes
    have e2 := empty_no a ha
    obtain ⟨s, hsd⟩ : ∃ s : ByteArray, s = ⟨a.toArray⟩ := ⟨_, rfl⟩
    rw [← hsd] at e2 ⊢
    clear ha hsd henv hs
    go_enter Tryz.func216, Tryz.ntmps216
    go_wp2
    go_quiet (fail)
    go_wp2
    go_ret2
    rw [HE.out]
    exact ⟨⟨_, _, _, _, rfl⟩, drew_here _ _ _⟩
  · have HE : Hid (tellHost hostTell t a sc = hostTell t (special sc)) := by show _ = _; unfold tellHost; rw [if_neg hbad]
    generalize special sc = sp at *
    generalize hostTell t sp = o at *
    by_cases ht : t = []
    · have ha : a = [] := by
        by_cases h : a = []
        · exact h
        · exact absurd ⟨ht, h⟩ hbad
      subst ht
      subst ha
      have e1 := empty_yes
      clear hbad henv hs hce
      cases o with
      | none =>
        go_enter Tryz.func216, Tryz.ntmps216
        go_wp2_with fail
        refine HS.out.mono ?_
        rintro e w' ⟨rfl, hw0⟩
        have hw0 := hw0.symm
        subst hw0
        go_wp2_with fail
        refine HT.out.mono ?_
        rintro e w1 ⟨⟨t2, v2, rfl⟩, b1⟩
        go_wp2
        go_ret2
        rw [HE.out]
        exact ⟨⟨_, _, _, _, rfl⟩, b1⟩
      | some l =>
        go_enter Tryz.func216, Tryz.ntmps216
        go_wp2_with fail
        refine HS.out.mono ?_
        rintro e w' ⟨rfl, hw0⟩
        have hw0 := hw0.symm
        subst hw0
        go_wp2_with fail
        refine HT.out.mono ?_
        rintro e w1 ⟨rfl, b1⟩
        go_wp2
        go_ret2
        rw [HE.out]
        exact ⟨rfl, b1⟩
    · have e1 := empty_no t ht
      obtain ⟨s, hsd⟩ : ∃ s : ByteArray, s = ⟨t.toArray⟩ := ⟨_, rfl⟩
      rw [← hsd] at e1 HT ⊢
      clear hbad henv hs hce ht hsd
      cases o with
      | none =>
        go_enter Tryz.func216, Tryz.ntmps216
        go_wp2_with fail
        refine HS.out.mono ?_
        rintro e w' ⟨rfl, hw0⟩
        have hw0 := hw0.symm
        subst hw0
        go_wp2_with fail
        refine HT.out.mono ?_
        rintro e w1 ⟨⟨t2, v2, rfl⟩, b1⟩
        go_wp2
        go_ret2
        rw [HE.out]
        exact ⟨⟨_, _, _, _, rfl⟩, b1⟩
      | some l =>
        go_enter Tryz.func216, Tryz.ntmps216
        go_wp2_with fail
        refine HS.out.mono ?_
        rintro e w' ⟨rfl, hw0⟩
        have hw0 := hw0.symm
        subst hw0
        go_wp2_with fail
        refine HT.out.mono ?_
        rintro e w1 ⟨rfl, b1⟩
        go_wp2
        go_ret2
        rw [HE.out]
        exact ⟨rfl, b1⟩

theorem cutLogin_len (l : Bs) : (cutLogin l).1.length ≤ l.length ∧ (cutLogin l).2.length ≤ l.length := by
  rcases login_split l with ⟨_, h⟩ | ⟨p, r, hl, _, h⟩
  · rw [h]; simp
  · rw [h, hl]
    simp
    omega
theorem cutPort_len (l : Bs) : (cutPort l).1.length ≤ l.length ∧ (cutPort l).2.length ≤ l.length := by
  rw [cutPort_opt]
  unfold cutOpt
  cases h : cutB 58 (l.drop (brackets l)) with
  | none => simp
  | some p =>
    have h2 := congrArg List.length (cutB_parts 58 _ p.1 p.2 h)
    simp at h2 ⊢
    omega

def authCells (a : Auth) : Array Value := #[.string ⟨a.user.toArray⟩, .string ⟨a.pass.toArray⟩, .bool a.has, .string ⟨a.host.toArray⟩, .int .i64 a.port]
def zeroAuth : Array Value := #[.string ⟨#[]⟩, .string ⟨#[]⟩, .bool false, .string ⟨#[]⟩, .int .i64 0]
theorem authCells_one (a : Auth) : (authCells a).all (·.oneCell') = true := by
  simp [authCells, Value.oneCell']
theorem zeroAuth_one : zeroAuth.all (·.oneCell') = true := by
  simp [zeroAuth, Value.oneCell']
theorem Tryz.sizeAuth : (Tryz.prog.info? 46).map (·.size) = some 5 := by kernel_rfl
/-- An authority and no error, or an empty one and a fault with its number. -/
def Tryz.AuthRes (o : Except Int Auth) (e : Ending) : Prop :=
  match o with
  | .ok a => e = .returned (.tuple #[.agg (authCells a), .nilIface])
  | .error n => ∃ x y t v, e = .returned (.tuple #[.agg zeroAuth, .iface 77 (.agg #[.int .i64 n, .string x, .string y, .iface t v])])
end Go.Proofs
