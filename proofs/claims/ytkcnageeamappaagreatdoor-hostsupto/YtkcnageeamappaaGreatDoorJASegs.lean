/-
  What host.tellPlain, host.tell, host.Tell and moor.Host answer, for every text, special or not.
-/
import Derived.Test.YtkcnageeamappaaGreatDoorJSBrack
import Derived.Test.YtkcnageeamappaaGreatDoorJAPort
import Derived.Test.YtkcnageeamappaaGreatDoorJLabels
import Derived.Deep.AppendLies
import Derived.WalkSmall
namespace Go.Proofs
open Go.RowKit Go.Moor

theorem any_badP (s : ByteArray) (k : Nat) (h : k < s.size) (hb : badP s[k] = true) : s.data.toList.any badP = true := by
  rw [List.any_eq_true]
  exact ⟨s[k], List.getElem_mem (l := s.data.toList) (n := k) (by simpa using h), hb⟩
theorem any_goodP (s : ByteArray) (h : ∀ (j : Nat) (hj : j < s.size), badP s[j] = false) : s.data.toList.any badP = false := by
  rw [List.any_eq_false]
  intro x hx
  obtain ⟨j, hj, rfl⟩ := List.getElem_of_mem hx
  have : badP s.data.toList[j] = false := h j (by simpa using hj)
  rw [this]; simp

set_option maxHeartbeats 4000000 in
theorem Tryz.tellPlain_any (s : ByteArray) (w : World) (hs : s.size < 4294967281) (henv : Tryz.Env w) :
    Calls Tryz.prog 85 #[.string s] w fun e w' => StrRes (hostPlain s.data.toList) e ∧ Below w.heap.size w w' := by
  have HT : Hid (Calls Tryz.prog 62 #[.string s, .int .i64 0] w fun e w' => e = .returned (.string ⟨(esc 0 s.data.toList).toArray⟩) ∧ Below w.heap.size w w') := Tryz.text_any s 0 w (by omega) henv.sets (by have := henv.size; omega)
  clear henv
  go_enter Tryz.func85, Tryz.ntmps85
  go_wp2_with fail
  go_loop [4] (fun i => ∃ k : Nat, k ≤ s.size ∧ i = .int .i64 k ∧ ∀ (j : Nat) (hj : j < s.size), j < k → badP s[j] = false) (fun i => s.size - (intOf i).toNat)
  case atStart => exact ⟨0, Nat.zero_le _, rfl, fun j hj h => by omega⟩
  case round =>
    obtain ⟨k, hk, rfl, hgood⟩ := hrel
    have HG : Hid (∀ (j : Nat) (hj : j < s.size), j < k → badP s[j] = false) := hgood
    clear hgood
    by_cases hlt : k < s.size
    · by_cases h1 : 0 ≤ Lib.indexByte forbP s[k]
      · have HR : Hid (hostPlain s.data.toList = none) := by
          show _ = _
          unfold hostPlain
          rw [if_pos (any_badP s k hlt (decide_eq_true h1))]
        go_wp2_with (go_at_call 141; refine (Tryz.indexByte_yes _ _ _ h1).mono ?_; rintro e w' ⟨⟨i, hi, rfl⟩, rfl⟩)
        go_quiet (fail)
        go_wp2
        go_ret2
        refine ⟨?_, Go.below_drewN (Below.refl _ _) _⟩
        rw [HR.out]
        exact ⟨_, _, rfl⟩
      · have HG2 : Hid (∀ (j : Nat) (hj : j < s.size), j < k + 1 → badP s[j] = false) := by
          intro j hj h
          by_cases e : j = k
          · subst e; exact decide_eq_false h1
          · exact HG.out j hj (by omega)
        go_wp2_with (go_at_call 141; refine (Tryz.indexByte_no _ _ _ h1).mono ?_; rintro e w' ⟨⟨i, hi, rfl⟩, rfl⟩)
        go_round
        case rel => exact ⟨k + 1, by omega, by go_num, HG2.out⟩
        case measure => simp [intOf]; omega
    · have HR : Hid (hostPlain s.data.toList = some (esc 0 s.data.toList)) := by
        show _ = _
        unfold hostPlain
        rw [any_goodP s (fun j hj => HG.out j hj (by omega))]
        rfl
      clear HG
      go_wp2_with fail
      refine HT.out.mono ?_
      rintro e W1 ⟨rfl, b1⟩
      go_wp2
      go_ret2
      rw [HR.out]
      exact ⟨rfl, b1⟩

set_option maxHeartbeats 1000000 in
theorem Tryz.tell_plain (s : ByteArray) (w : World) (hs : s.size < 4294967281) (hpf : Lib.hasPrefix s.data.toList (⟨#[91]⟩ : ByteArray).data.toList = false) (henv : Tryz.Env w) :
    Calls Tryz.prog 55 #[.string s, .bool false] w fun e w' => StrRes (hostPlain s.data.toList) e ∧ Below w.heap.size w w' := by
  have HP : Hid (Lib.hasPrefix s.data.toList (⟨#[91]⟩ : ByteArray).data.toList = false) := hpf
  have HC : Hid (Calls Tryz.prog 85 #[.string s] w fun e w' => StrRes (hostPlain s.data.toList) e ∧ Below w.heap.size w w') := Tryz.tellPlain_any s w hs henv
  generalize hostPlain s.data.toList = o at *
  clear henv hpf
  go_enter Tryz.func55, Tryz.ntmps55
  go_wp2_with (go_at_call 82; refine (Tryz.prefix_no _ _ _ HP.out).mono ?_; rintro e w' ⟨rfl, rfl⟩)
  refine HC.out.mono ?_
  rintro e w1 ⟨hr, hb1⟩
  obtain ⟨ra, rb, rfl, hr⟩ := strRes_ret hr
  have HR : Hid (StrRes o (.returned (.tuple #[ra, rb]))) := hr
  clear hr
  go_wp2
  go_ret2
  exact ⟨HR.out, hb1⟩

theorem Tryz.tell_any (s : ByteArray) (sp : Bool) (w : World) (hs : s.size < 4294967281) (henv : Tryz.Env w) (htz : Tryz.Tz w) :
    Calls Tryz.prog 55 #[.string s, .bool sp] w fun e w' => StrRes (hostTell s.data.toList sp) e ∧ Below w.heap.size w w' := by
  unfold hostTell
  by_cases hp : Lib.hasPrefix s.data.toList [91] = true
  · rw [if_pos hp]
    refine Tryz.tell_bracket s sp w hs ?_ hp henv htz
    rw [Lib.size_eq]
    cases h : s.data.toList with
    | nil => rw [h] at hp; cases hp
    | cons c r => simp
  · have hp2 : Lib.hasPrefix s.data.toList [91] = false := Bool.eq_false_iff.2 hp
    rw [if_neg hp]
    cases sp with
    | true => exact Tryz.tell_special s w hs hp2 henv
    | false => exact Tryz.tell_plain s w hs hp2 henv
theorem Tryz.Tell_any (s : ByteArray) (sp : Bool) (w : World) (hs : s.size < 4294967281) (henv : Tryz.Env w) (htz : Tryz.Tz w) :
    Calls Tryz.prog 32 #[.string s, .bool sp] w fun e w' => Tryz.TellRes s (hostTell s.data.toList sp) e ∧ Below w.heap.size w w' :=
  Tryz.Tell_of s sp _ w (Tryz.tell_any s sp w hs henv htz)
theorem Tryz.Host_any (s : ByteArray) (sp : Bool) (w : World) (hs : s.size ≤ 2000) (henv : Tryz.Env w) (htz : Tryz.Tz w) :
    Calls Tryz.prog 18 #[.string s, .bool sp] w fun e w' => e = HostRes (hostTell s.data.toList sp) ∧ Below w.heap.size w w' :=
  Tryz.Host_of s sp _ w henv hs (Tryz.tell_any s sp w (by omega) henv htz)
end Go.Proofs
/-
  What tellHost and readAuthority of package address answer.
-/
namespace Go.Proofs
open Go.RowKit Go.Moor

/-- A text and no error, or an empty text and a fault with that number. -/
def Tryz.TextRes (n : Int) (o : Option Bs) (e : Ending) : Prop :=
  match o with
  | some l => e = .returned (.tuple #[.string ⟨l.toArray⟩, .nilIface])
  | none => ∃ x y t v, e = .returned (.tuple #[.string ⟨#[]⟩, .iface 96 (.agg #[.int .i64 n, .string x, .string y, .iface t v])])

theorem empty_no (l : Bs) (h : l ≠ []) : (⟨l.toArray⟩ : ByteArray).toList.isEmpty = false := by
  rw [Lib.toList_data]
  cases l with
  | nil => exact absurd rfl h
  | cons c r => rfl
theorem empty_yes : (⟨([] : Bs).toArray⟩ : ByteArray).toList.isEmpty = true := by rw [Lib.toList_data]; rfl

set_option maxHeartbeats 2000000 in
theorem Tryz.tellHost_any (t a sc : Bs) (w : World) (hs : t.length < 4294967281) (henv : Tryz.Env2 w) :
    Calls Tryz.prog 306 #[.string ⟨t.toArray⟩, .string ⟨a.toArray⟩, .string ⟨sc.toArray⟩] w fun e w' => Tryz.TextRes 4 (tellHost hostTell t a sc) e ∧ Below w.heap.size w w' := by
  have HS : Hid (Calls Tryz.prog 126 #[.string ⟨sc.toArray⟩] w fun e w' => e = .returned (.bool (special sc)) ∧ w' = w) := Tryz.isSpecial_any ⟨sc.toArray⟩ w
  have HT : Hid (Calls Tryz.prog 32 #[.string ⟨t.toArray⟩, .bool (special sc)] w fun e w' => Tryz.TellRes ⟨t.toArray⟩ (hostTell t (special sc)) e ∧ Below w.heap.size w w') := Tryz.Tell_any ⟨t.toArray⟩ (special sc) w (by rw [size_mk]; exact hs) henv.env henv.tz
  obtain ⟨te, ve, hce⟩ := henv.eHost
  by_cases hbad : t = [] ∧ a ≠ []
  · obtain ⟨rfl, ha⟩ := hbad
    have HE : Hid (tellHost hostTell [] a sc = none) := by show _ = _; unfold tellHost; rw [if_pos ⟨rfl, ha⟩]
    have e1 := empty_yes
    have e2 := empty_no a ha
    obtain ⟨s, hsd⟩ : ∃ s : ByteArray, s = ⟨a.toArray⟩ := ⟨_, rfl⟩
    rw [← hsd] at e2 ⊢
    clear ha hsd henv hs
    go_enter Tryz.func306, Tryz.ntmps306
    go_wp2
    go_quiet (fail)
    go_wp2
    go_ret2
    rw [HE.out]
    exact ⟨⟨_, _, _, _, rfl⟩, drew_here _ _ _⟩
  · have HE : Hid (tellHost hostTell t a sc = hostTell t (special sc)) := by show _ = _; unfold tellHost; rw [if_neg hbad]
    generalize special sc = sp at *
    generalize hostTell t sp = o at *
    by_cases ht : t = []
    · have ha : a = [] := by
        by_cases h : a = []
        · exact h
        · exact absurd ⟨ht, h⟩ hbad
      subst ht
      subst ha
      have e1 := empty_yes
      clear hbad henv hs hce
      cases o with
      | none =>
        go_enter Tryz.func306, Tryz.ntmps306
        go_wp2_with fail
        refine HS.out.mono ?_
        rintro e w' ⟨rfl, hw0⟩
        have hw0 := hw0.symm
        subst hw0
        go_wp2_with fail
        refine HT.out.mono ?_
        rintro e w1 ⟨⟨t2, v2, rfl⟩, b1⟩
        go_wp2
        go_ret2
        rw [HE.out]
        exact ⟨⟨_, _, _, _, rfl⟩, b1⟩
      | some l =>
        go_enter Tryz.func306, Tryz.ntmps306
        go_wp2_with fail
        refine HS.out.mono ?_
        rintro e w' ⟨rfl, hw0⟩
        have hw0 := hw0.symm
        subst hw0
        go_wp2_with fail
        refine HT.out.mono ?_
        rintro e w1 ⟨rfl, b1⟩
        go_wp2
        go_ret2
        rw [HE.out]
        exact ⟨rfl, b1⟩
    · have e1 := empty_no t ht
      obtain ⟨s, hsd⟩ : ∃ s : ByteArray, s = ⟨t.toArray⟩ := ⟨_, rfl⟩
      rw [← hsd] at e1 HT ⊢
      clear hbad henv hs hce ht hsd
      cases o with
      | none =>
        go_enter Tryz.func306, Tryz.ntmps306
        go_wp2_with fail
        refine HS.out.mono ?_
        rintro e w' ⟨rfl, hw0⟩
        have hw0 := hw0.symm
        subst hw0
        go_wp2_with fail
        refine HT.out.mono ?_
        rintro e w1 ⟨⟨t2, v2, rfl⟩, b1⟩
        go_wp2
        go_ret2
        rw [HE.out]
        exact ⟨⟨_, _, _, _, rfl⟩, b1⟩
      | some l =>
        go_enter Tryz.func306, Tryz.ntmps306
        go_wp2_with fail
        refine HS.out.mono ?_
        rintro e w' ⟨rfl, hw0⟩
        have hw0 := hw0.symm
        subst hw0
        go_wp2_with fail
        refine HT.out.mono ?_
        rintro e w1 ⟨rfl, b1⟩
        go_wp2
        go_ret2
        rw [HE.out]
        exact ⟨rfl, b1⟩

theorem cutLogin_len (l : Bs) : (cutLogin l).1.length ≤ l.length ∧ (cutLogin l).2.length ≤ l.length := by
  rcases login_split l with ⟨_, h⟩ | ⟨p, r, hl, _, h⟩
  · rw [h]; simp
  · rw [h, hl]
    simp
    omega
theorem cutPort_len (l : Bs) : (cutPort l).1.length ≤ l.length ∧ (cutPort l).2.length ≤ l.length := by
  rw [cutPort_opt]
  unfold cutOpt
  cases h : cutB 58 (l.drop (brackets l)) with
  | none => simp
  | some p =>
    have h2 := congrArg List.length (cutB_parts 58 _ p.1 p.2 h)
    simp at h2 ⊢
    omega

def authCells (a : Auth) : Array Value := #[.string ⟨a.user.toArray⟩, .string ⟨a.pass.toArray⟩, .bool a.has, .string ⟨a.host.toArray⟩, .int .i64 a.port]
def zeroAuth : Array Value := #[.string ⟨#[]⟩, .string ⟨#[]⟩, .bool false, .string ⟨#[]⟩, .int .i64 0]
theorem authCells_one (a : Auth) : (authCells a).all (·.oneCell') = true := by
  simp [authCells, Value.oneCell']
theorem zeroAuth_one : zeroAuth.all (·.oneCell') = true := by
  simp [zeroAuth, Value.oneCell']
theorem Tryz.sizeAuth : (Tryz.prog.info? 71).map (·.size) = some 5 := by kernel_rfl
/-- An authority and no error, or an empty one and a fault with its number. -/
def Tryz.AuthRes (o : Except Int Auth) (e : Ending) : Prop :=
  match o with
  | .ok a => e = .returned (.tuple #[.agg (authCells a), .nilIface])
  | .error n => ∃ x y t v, e = .returned (.tuple #[.agg zeroAuth, .iface 96 (.agg #[.int .i64 n, .string x, .string y, .iface t v])])
end Go.Proofs
/-
  What readAuthority of package address answers.
-/
namespace Go.Proofs
open Go.RowKit Go.Moor

set_option maxHeartbeats 4000000 in
theorem Tryz.readAuthority_any (l sc : Bs) (w : World) (hs : l.length < 4294967281) (henv : Tryz.Env2 w) :
    Calls Tryz.prog 282 #[.string ⟨l.toArray⟩, .string ⟨sc.toArray⟩] w fun e w' => Tryz.AuthRes (readAuth hostTell l sc) e ∧ Below w.heap.size w w' := by
  obtain ⟨W, hW⟩ : ∃ W, W = w.alloc (.cells zeroAuth 71) := ⟨_, rfl⟩
  have HBW : Hid (Below w.heap.size w W) := by
    rw [hW]
    exact (Below.refl _ _).alloc (Nat.le_refl _) _
  have hsize : W.heap.size = w.heap.size + 1 := by rw [hW]; simp
  have HH : Hid (∀ w1, Below W.heap.size W w1 → w1.heap[w.heap.size]? = some (.cells zeroAuth 71 (0, 0)) ∧ Below w.heap.size w w1 ∧ Tryz.Env2 w1) := by
    intro w1 h1
    have hb := HBW.out.trans (h1.mono (by omega))
    refine ⟨(h1.block w.heap.size (by omega)).trans ?_, hb, henv.below hb⟩
    rw [hW]
    exact alloc_here w _ _
  have HE : Hid (readAuth hostTell l sc = match tellHost hostTell (cutPort (cutLogin l).2).1 l sc with | none => .error 4 | some h => match readPort (cutPort (cutLogin l).2).2 sc with | none => .error 5 | some p => .ok ⟨esc 5 (cutOpt 58 (cutLogin l).1).1, esc 5 ((cutOpt 58 (cutLogin l).1).2.getD []), true, h, p⟩) := rfl
  have hl1 := cutLogin_len l
  have HC1 : Hid (∀ w1, Below W.heap.size W w1 → Calls Tryz.prog 304 #[.string ⟨l.toArray⟩] w1 fun e w' => e = .returned (.tuple #[.string ⟨(cutLogin l).1.toArray⟩, .string ⟨(cutLogin l).2.toArray⟩]) ∧ Below W.heap.size W w') := by
    intro w1 h1
    refine (Tryz.cutLogin_any l w1 hs).mono ?_
    rintro e w' ⟨rfl, n, rfl⟩
    exact ⟨rfl, drew_on h1 n⟩
  generalize (cutLogin l).1 = lo at *
  generalize (cutLogin l).2 = pl at *
  have hl2 := cutOpt_len 58 lo
  have HC2 : Hid (∀ w1, Below W.heap.size W w1 → Calls Tryz.prog 112 #[.string ⟨lo.toArray⟩, .string ⟨#[58]⟩] w1 fun e w' => e = .returned (.tuple #[.string ⟨(cutOpt 58 lo).1.toArray⟩, .string ⟨((cutOpt 58 lo).2.getD []).toArray⟩, .bool (cutOpt 58 lo).2.isSome]) ∧ Below W.heap.size W w') := by
    intro w1 h1
    obtain ⟨m, hm⟩ := (HH.out w1 h1).2.2.env.maxLen
    refine (Tryz.cut_byte ⟨lo.toArray⟩ 58 m w1 (by rw [size_mk]; omega) hm).mono ?_
    rintro e w' ⟨rfl, n, rfl⟩
    exact ⟨rfl, drew_on h1 n⟩
  generalize (cutOpt 58 lo).2.isSome = bo at *
  generalize (cutOpt 58 lo).1 = us at *
  generalize (cutOpt 58 lo).2.getD [] = pa at *
  have hl3 := cutPort_len pl
  have HC3 : Hid (∀ w1, Below W.heap.size W w1 → Calls Tryz.prog 305 #[.string ⟨pl.toArray⟩] w1 fun e w' => e = .returned (.tuple #[.string ⟨(cutPort pl).1.toArray⟩, .string ⟨(cutPort pl).2.toArray⟩]) ∧ Below W.heap.size W w') := by
    intro w1 h1
    refine (Tryz.cutPort_any pl w1 (by omega) (HH.out w1 h1).2.2.env).mono ?_
    rintro e w' ⟨rfl, n, rfl⟩
    exact ⟨rfl, drew_on h1 n⟩
  generalize (cutPort pl).1 = ho at *
  generalize (cutPort pl).2 = po at *
  have HC4 : Hid (∀ w1, Below W.heap.size W w1 → Calls Tryz.prog 306 #[.string ⟨ho.toArray⟩, .string ⟨l.toArray⟩, .string ⟨sc.toArray⟩] w1 fun e w' => Tryz.TextRes 4 (tellHost hostTell ho l sc) e ∧ Below W.heap.size W w') := by
    intro w1 h1
    refine (Tryz.tellHost_any ho l sc w1 (by omega) (HH.out w1 h1).2.2).mono ?_
    rintro e w' ⟨hr, hb⟩
    exact ⟨hr, h1.trans (hb.mono h1.size)⟩
  have HC5 : Hid (∀ w1, Below W.heap.size W w1 → Calls Tryz.prog 210 #[.string ⟨po.toArray⟩, .string ⟨sc.toArray⟩] w1 fun e w' => Tryz.PortRes (readPort po sc) e ∧ Below W.heap.size W w') := by
    intro w1 h1
    refine (Tryz.readPort_any po sc w1 (by omega) (HH.out w1 h1).2.2).mono ?_
    rintro e w' ⟨hr, hb⟩
    exact ⟨hr, h1.trans (hb.mono h1.size)⟩
  have HC6 : Hid (∀ t : Bs, t.length ≤ l.length → ∀ w1, Below W.heap.size W w1 → Calls Tryz.prog 62 #[.string ⟨t.toArray⟩, .int .i64 5] w1 fun e w' => e = .returned (.string ⟨(esc 5 t).toArray⟩) ∧ Below W.heap.size W w') := by
    intro t ht w1 h1
    have hv := (HH.out w1 h1).2.2.env
    refine (Tryz.text_any ⟨t.toArray⟩ 5 w1 (by rw [size_mk]; omega) hv.sets (by have := hv.size; omega)).mono ?_
    rintro e w' ⟨rfl, hb⟩
    exact ⟨rfl, h1.trans (hb.mono h1.size)⟩
  have hus : us.length ≤ l.length := by omega
  have hpa : pa.length ≤ l.length := by omega
  generalize tellHost hostTell ho l sc = oh at *
  generalize readPort po sc = op at *
  have HBR : Hid (Below W.heap.size W W) := Below.refl _ _
  clear henv hl1 hl2 hl3 hs
  cases oh with
  | none =>
    go_enter Tryz.func282, Tryz.ntmps282
    go_wp2_with fail
    refine Calls.mono (HC1.out _ (by rw [hW]; exact Below.refl _ _)) ?_
    rintro e w1 ⟨rfl, b1⟩
    go_wp2_with fail
    refine (HC2.out w1 b1).mono ?_
    rintro e w2 ⟨rfl, b2⟩
    go_wp2_with fail
    refine (HC3.out w2 b2).mono ?_
    rintro e w3 ⟨rfl, b3⟩
    go_wp2_with fail
    refine (HC4.out w3 b3).mono ?_
    rintro e w4 ⟨⟨x, y, te, ve, rfl⟩, b4⟩
    obtain ⟨hh, hbw, _⟩ := HH.out w4 b4
    have HN : Hid (w4.heap[w.heap.size]? = some (.cells zeroAuth 71 (0, 0))) := hh
    have HBB : Hid (Below w.heap.size w w4) := hbw
    clear hh hbw b1 b2 b3 b4 hW
    go_wp2_with (refine wpList_store_row rfl 71 _ _ rfl w.heap.size zeroAuth rfl rfl 71 zeroAuth HN.out Tryz.sizeAuth rfl zeroAuth_one ?_)
    (try simp only [Exit.inBlock, Exit.then])
    have hld := run_loadVar_row (P := Tryz.prog) (w4.setRow w.heap.size zeroAuth) w.heap.size 71 71 zeroAuth (0, 0) _ (setRow_heap w4 w.heap.size zeroAuth zeroAuth 71 (0, 0) HN.out) Tryz.underlying71 rfl Tryz.sizeAuth
    refine bodyPost_ret (v := .tuple #[.agg zeroAuth, .iface 96 (.agg #[.int .i64 4, .string x, .string y, .iface te ve])]) ?_ rfl ⟨?_, below_setRow HBB.out (Nat.le_refl _) _⟩
    · rw [results_cell_tmp rfl]
      simp [asAddr, Result.andThen, hld]
    · rw [HE.out]
      exact ⟨_, _, _, _, rfl⟩
  | some h =>
    cases op with
    | none =>
      go_enter Tryz.func282, Tryz.ntmps282
      go_wp2_with fail
      refine Calls.mono (HC1.out _ (by rw [hW]; exact Below.refl _ _)) ?_
      rintro e w1 ⟨rfl, b1⟩
      go_wp2_with fail
      refine (HC2.out w1 b1).mono ?_
      rintro e w2 ⟨rfl, b2⟩
      go_wp2_with fail
      refine (HC3.out w2 b2).mono ?_
      rintro e w3 ⟨rfl, b3⟩
      go_wp2_with fail
      refine (HC4.out w3 b3).mono ?_
      rintro e w4 ⟨rfl, b4⟩
      go_wp2_with fail
      refine (HC5.out w4 b4).mono ?_
      rintro e w5 ⟨⟨x, y, te, ve, rfl⟩, b5⟩
      obtain ⟨hh, hbw, _⟩ := HH.out w5 b5
      have HN : Hid (w5.heap[w.heap.size]? = some (.cells zeroAuth 71 (0, 0))) := hh
      have HBB : Hid (Below w.heap.size w w5) := hbw
      clear hh hbw b1 b2 b3 b4 b5 hW
      go_wp2_with (refine wpList_store_row rfl 71 _ _ rfl w.heap.size zeroAuth rfl rfl 71 zeroAuth HN.out Tryz.sizeAuth rfl zeroAuth_one ?_)
      (try simp only [Exit.inBlock, Exit.then])
      have hld := run_loadVar_row (P := Tryz.prog) (w5.setRow w.heap.size zeroAuth) w.heap.size 71 71 zeroAuth (0, 0) _ (setRow_heap w5 w.heap.size zeroAuth zeroAuth 71 (0, 0) HN.out) Tryz.underlying71 rfl Tryz.sizeAuth
      refine bodyPost_ret (v := .tuple #[.agg zeroAuth, .iface 96 (.agg #[.int .i64 5, .string x, .string y, .iface te ve])]) ?_ rfl ⟨?_, below_setRow HBB.out (Nat.le_refl _) _⟩
      · rw [results_cell_tmp rfl]
        simp [asAddr, Result.andThen, hld]
      · rw [HE.out]
        exact ⟨_, _, _, _, rfl⟩
    | some p =>
      go_enter Tryz.func282, Tryz.ntmps282
      go_wp2_with fail
      refine Calls.mono (HC1.out _ (by rw [hW]; exact Below.refl _ _)) ?_
      rintro e w1 ⟨rfl, b1⟩
      go_wp2_with fail
      refine (HC2.out w1 b1).mono ?_
      rintro e w2 ⟨rfl, b2⟩
      go_wp2_with fail
      refine (HC3.out w2 b2).mono ?_
      rintro e w3 ⟨rfl, b3⟩
      go_wp2_with fail
      refine (HC4.out w3 b3).mono ?_
      rintro e w4 ⟨rfl, b4⟩
      go_wp2_with fail
      refine (HC5.out w4 b4).mono ?_
      rintro e w5 ⟨rfl, b5⟩
      go_wp2_with fail
      refine (HC6.out us hus w5 b5).mono ?_
      rintro e w6 ⟨rfl, b6⟩
      go_wp2_with fail
      refine (HC6.out pa hpa w6 b6).mono ?_
      rintro e w7 ⟨rfl, b7⟩
      obtain ⟨hh, hbw, _⟩ := HH.out w7 b7
      have HN : Hid (w7.heap[w.heap.size]? = some (.cells zeroAuth 71 (0, 0))) := hh
      have HBB : Hid (Below w.heap.size w w7) := hbw
      clear hh hbw b1 b2 b3 b4 b5 b6 b7 hW
      obtain ⟨AU, hAU⟩ : ∃ AU : Auth, AU = ⟨esc 5 us, esc 5 pa, true, h, p⟩ := ⟨_, rfl⟩
      have HAC : Hid ((#[.string ⟨(esc 5 us).toArray⟩, .string ⟨(esc 5 pa).toArray⟩, .bool true, .string ⟨h.toArray⟩, .int .i64 p] : Array Value) = authCells AU) := by rw [hAU]; rfl
      have HAU : Hid (AU = ⟨esc 5 us, esc 5 pa, true, h, p⟩) := hAU
      clear hAU
      go_wp2_with (refine wpList_store_row rfl 71 _ _ rfl w.heap.size (authCells AU) rfl (congrArg Value.agg HAC.out) 71 zeroAuth HN.out Tryz.sizeAuth rfl (authCells_one AU) ?_)
      (try simp only [Exit.inBlock, Exit.then])
      have hld := run_loadVar_row (P := Tryz.prog) (w7.setRow w.heap.size (authCells AU)) w.heap.size 71 71 (authCells AU) (0, 0) _ (setRow_heap w7 w.heap.size zeroAuth (authCells AU) 71 (0, 0) HN.out) Tryz.underlying71 rfl Tryz.sizeAuth
      refine bodyPost_ret (v := .tuple #[.agg (authCells AU), .nilIface]) ?_ rfl ⟨?_, below_setRow HBB.out (Nat.le_refl _) _⟩
      · rw [results_cell_tmp rfl]
        simp [asAddr, Result.andThen, hld]
      · rw [HE.out, HAU.out]
        rfl
end Go.Proofs
/-
  What withoutLast of package address answers.
-/
namespace Go.Proofs
open Go.RowKit Go.Moor

set_option maxHeartbeats 2000000 in
theorem Tryz.withoutLast_any (sc : Bs) (sp : Option Go.Addr) (cap : Nat) (segs : List Bs) (w : World) (hn : segs.length ≤ cap) (hc : cap ≤ 9223372036854775807) (hl : ∀ x ∈ segs, x.length < 4294967281)
    (hcell : ∀ (j : Nat) x, segs[j]? = some x → ∃ a : Go.Addr, sp = some a ∧ w.cell? (a.add j) = some (.string ⟨x.toArray⟩)) :
    Calls Tryz.prog 253 #[.string ⟨sc.toArray⟩, .slice sp segs.length cap] w fun e w' => e = .returned (.slice sp (withoutLast sc segs).length cap) ∧ w' = w := by
  match segs, hn, hl, hcell with
  | [], hn, _, _ =>
    have HE : Hid ((withoutLast sc []).length = 0) := by show _ = _; unfold withoutLast; rw [if_neg (by simp)]; rfl
    go_enter Tryz.func253, Tryz.ntmps253
    go_wp2
    go_ret
    rw [HE.out]
    exact ⟨rfl, rfl⟩
  | [x], hn, hl, hcell =>
    obtain ⟨a, rfl, hc0⟩ := hcell 0 x rfl
    have hc0' : w.cell? a = some (.string ⟨x.toArray⟩) := hc0
    have HI : Hid (Calls Tryz.prog 287 #[.string ⟨x.toArray⟩] w fun e w' => e = .returned (.bool (toldDrive x)) ∧ w' = w) := Tryz.isToldDrive_any x w (hl x (by simp))
    have HE : Hid ((withoutLast sc [x]).length = if sc = sFile ∧ toldDrive x = true then 1 else 0) := by
      show _ = _
      unfold withoutLast
      by_cases h : sc = sFile ∧ toldDrive x = true
      · rw [if_pos ⟨rfl, h.1, h.2⟩, if_pos h]
        rfl
      · rw [if_neg (fun y => h ⟨y.2.1, y.2.2⟩), if_neg h]
        rfl
    clear hl hcell
    by_cases hf : sc = sFile
    · subst hf
      cases ht : toldDrive x with
      | true =>
        have HE2 : Hid ((withoutLast sFile [x]).length = 1) := by show _ = _; rw [HE.out, if_pos ⟨rfl, ht⟩]
        rw [ht] at HI
        clear ht HE
        go_enter Tryz.func253, Tryz.ntmps253
        go_wp2_with fail
        refine HI.out.mono ?_
        rintro e w' ⟨rfl, hw0⟩
        have hw0 := hw0.symm
        subst hw0
        go_wp2
        go_ret
        rw [HE2.out]
        exact ⟨rfl, rfl⟩
      | false =>
        have HE2 : Hid ((withoutLast sFile [x]).length = 0) := by show _ = _; rw [HE.out, if_neg (by simp [ht])]
        rw [ht] at HI
        clear ht HE
        go_enter Tryz.func253, Tryz.ntmps253
        go_wp2_with fail
        refine HI.out.mono ?_
        rintro e w' ⟨rfl, hw0⟩
        have hw0 := hw0.symm
        subst hw0
        go_wp2
        go_ret
        rw [HE2.out]
        exact ⟨rfl, rfl⟩
    · have e1 := mk_ne sc _ hf
      have HE2 : Hid ((withoutLast sc [x]).length = 0) := by show _ = _; rw [HE.out, if_neg (fun y => hf y.1)]
      obtain ⟨s, hsd⟩ : ∃ s : ByteArray, s = ⟨sc.toArray⟩ := ⟨_, rfl⟩
      rw [← hsd] at e1 ⊢
      unfold sFile at e1
      clear hf hsd HE
      go_enter Tryz.func253, Tryz.ntmps253
      go_wp2
      go_ret
      rw [HE2.out]
      exact ⟨rfl, rfl⟩
  | x :: y :: r, hn, _, hcell =>
    obtain ⟨a, rfl, _⟩ := hcell 0 x rfl
    have HE : Hid ((withoutLast sc (x :: y :: r)).length = r.length + 1) := by
      show _ = _
      unfold withoutLast
      rw [if_neg (by simp), List.length_dropLast]
      rfl
    have hn2 : r.length + 2 ≤ cap := hn
    clear hcell
    show Calls Tryz.prog 253 #[.string ⟨sc.toArray⟩, .slice (some a) (r.length + 2) cap] w _
    have e0 : (((r.length + 2 : Nat) : Int) - 1 == 0) = false := beq_eq_false_iff_ne.2 (by omega)
    go_enter Tryz.func253, Tryz.ntmps253
    go_wp2
    go_ret
    rw [HE.out]
    exact ⟨rfl, rfl⟩
end Go.Proofs
/-
  What readSegments of package address answers: the segments, in a row of the call's own.
-/
namespace Go.Proofs
open Go.RowKit Go.Moor

def strs (l : List Bs) : List Value := l.map fun x => .string ⟨x.toArray⟩
theorem strs_len (l : List Bs) : (strs l).length = l.length := by simp [strs]
theorem strs_app (a b : List Bs) : strs (a ++ b) = strs a ++ strs b := by simp [strs]
theorem ba_eta (x : ByteArray) : (⟨x.data.toList.toArray⟩ : ByteArray) = x := by cases x; simp

theorem own_block_lt {w : World} {base : Nat} {e : TypeId} {v : Value} {n : Nat} {xs : List Value} (h : w.ownsRow base e 1 v n xs) : ∀ g, v.ownBlock = some g → g < w.heap.size := fun g hg => (h.lt g hg).2

theorem Tryz.clone_row (sp : Option Go.Addr) (cap : Nat) (segs : List Bs) (w : World) (hlen : segs.length ≤ 4294967283)
    (hform : segs ≠ [] → ∃ g, sp = some ⟨g, 0, none⟩ ∧ ∀ (j : Nat) x, segs[j]? = some x → w.cell? ⟨g, j, none⟩ = some (.string ⟨x.toArray⟩)) :
    Calls Tryz.prog 250 #[.slice sp segs.length cap] w fun e w' => (∃ v, e = .returned v ∧ w'.ownsRow w.heap.size 9 1 v segs.length (strs segs)) ∧ Below w.heap.size w w' := by
  by_cases h0 : segs = []
  · subst h0
    cases sp with
    | none =>
      refine (Tryz.slices_Clone_string_nil 0 cap w).mono ?_
      rintro e w' ⟨rfl, rfl⟩
      exact ⟨⟨_, rfl, World.ownsRow_nil _ _ _ _⟩, Below.refl _ _⟩
    | some a =>
      refine (Tryz.slices_Clone_string_zero a cap w).mono ?_
      rintro e w' ⟨v, rfl, ho, _, hb⟩
      exact ⟨⟨v, rfl, ho⟩, hb⟩
  · obtain ⟨g, rfl, hc⟩ := hform h0
    have hm : (segs.map fun x => (⟨x.toArray⟩ : ByteArray)).length = segs.length := by simp
    have := Tryz.slices_Clone_string g 0 segs.length cap (segs.map fun x => ⟨x.toArray⟩) w (by rw [hm]; exact Nat.le_refl _) (by omega) (by
      intro j hj
      rw [hm] at hj
      have hx : segs[j]? = some segs[j] := List.getElem?_eq_getElem hj
      have h1 := hc j _ hx
      rw [Nat.zero_add, h1]
      simp [List.getD, hx])
    refine this.mono ?_
    rintro e w' ⟨v, rfl, ho, _, hb⟩
    refine ⟨⟨v, rfl, ?_⟩, hb⟩
    rw [List.take_of_length_le (by rw [hm]; exact Nat.le_refl _), List.map_map] at ho
    exact ho

/-- A slice of the own row, one segment less (or the same). -/
theorem own_less {w : World} {base : Nat} {e : TypeId} {sp : Option Go.Addr} {cap : Nat} {segs : List Bs} (sc : Bs) (h : w.ownsRow base e 1 (.slice sp segs.length cap) segs.length (strs segs)) :
    w.ownsRow base e 1 (.slice sp (withoutLast sc segs).length cap) (withoutLast sc segs).length (strs (withoutLast sc segs)) := by
  unfold withoutLast
  split
  · exact h
  · by_cases h0 : segs = []
    · subst h0; exact h
    · obtain ⟨g, cap', hv, _⟩ := h.form (List.length_pos_iff.2 h0)
      simp only [Value.slice.injEq] at hv
      obtain ⟨rfl, _, rfl⟩ := hv
      have hl : segs.length = segs.dropLast.length + 1 := by
        rw [List.length_dropLast]
        have := List.length_pos_iff.2 h0
        omega
      have hs : strs segs = strs segs.dropLast ++ strs [segs.getLast h0] := by
        rw [← strs_app, List.dropLast_concat_getLast h0]
      rw [hl, hs] at h
      exact ownsRow_pop (by rw [strs_len]; omega) h
theorem own_shape {w : World} {base : Nat} {e : TypeId} {v : Value} {n : Nat} {xs : List Value} (h : w.ownsRow base e 1 v n xs) : ∃ sp cap, v = .slice sp n cap ∧ n ≤ cap ∧ cap ≤ maxLen ∧ (0 < n → ∃ g, sp = some ⟨g, 0, none⟩ ∧ ∀ j u, xs[j]? = some u → w.cell? ⟨g, j, none⟩ = some u) := by
  rcases h.2 with ⟨rfl, rfl⟩ | ⟨g, cap, cur, rfl, h2, h3, h4, h5, h6, h7⟩
  · exact ⟨none, 0, rfl, Nat.le_refl _, Nat.zero_le _, fun h => absurd h (by omega)⟩
  · obtain ⟨sp, cap', hv, hf⟩ := own_form h
    simp only [Value.slice.injEq] at hv
    obtain ⟨rfl, _, rfl⟩ := hv
    refine ⟨_, cap, rfl, h4, h5, fun hn => ?_⟩
    obtain ⟨g', e1, _, e2⟩ := hf hn
    exact ⟨g', e1, e2⟩

theorem esc_le (s : Int) (l : Bs) : (esc s l).length ≤ 3 * l.length := by
  have h1 := esc_len s l
  have h2 : cnt s l ≤ l.length := cnt_le s l
  omega
theorem tellSeg_len (sc p : Bs) (f : Bool) : (tellSeg sc p f).length ≤ 3 * p.length + 2 := by
  unfold tellSeg
  split
  · simp
    omega
  · have := esc_le 4 p
    omega
theorem segLoop_cons (sc : Bs) (segs : List Bs) (p : Bs) (l : List Bs) (h : dots p = 0) : segLoop sc segs (p :: l) = segLoop sc (segs ++ [tellSeg sc p segs.isEmpty]) l := by rw [segLoop, if_pos h]
theorem segLoop_one (sc : Bs) (segs : List Bs) (p : Bs) (l : List Bs) (h : dots p = 1) : segLoop sc segs (p :: l) = segLoop sc (segs ++ (if l.isEmpty then [[]] else [])) l := by rw [segLoop, if_neg (by omega), if_neg (by omega)]
theorem segLoop_two (sc : Bs) (segs : List Bs) (p : Bs) (l : List Bs) (h : dots p = 2) : segLoop sc segs (p :: l) = segLoop sc (withoutLast sc segs ++ (if l.isEmpty then [[]] else [])) l := by rw [segLoop, if_neg (by omega), if_pos h]
theorem withoutLast_mem (sc : Bs) (segs : List Bs) : (withoutLast sc segs).length ≤ segs.length ∧ ∀ x ∈ withoutLast sc segs, x ∈ segs := by
  unfold withoutLast
  split
  · exact ⟨Nat.le_refl _, fun x h => h⟩
  · exact ⟨by rw [List.length_dropLast]; omega, fun x h => List.dropLast_subset _ h⟩
theorem dots_le (p : Bs) : dots p = 0 ∨ dots p = 1 ∨ dots p = 2 := by
  unfold dots
  simp only
  split
  · exact Or.inr (Or.inl rfl)
  · split
    · exact Or.inr (Or.inr rfl)
    · exact Or.inl rfl
theorem splitOn_count (c : UInt8) : ∀ l : Bs, (splitOn c l).length ≤ l.length + 1
  | [] => by simp [splitOn]
  | b :: l => by
    have ih := splitOn_count c l
    unfold splitOn
    split
    · simp; omega
    · split
      · rename_i x xs h
        rw [h] at ih
        simp at ih ⊢
        omega
      · simp
end Go.Proofs
