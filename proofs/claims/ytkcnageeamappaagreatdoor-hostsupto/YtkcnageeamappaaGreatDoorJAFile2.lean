/-
  What Optional.tell, tellLogin and tellPlace of package address answer.
-/
import Derived.Test.YtkcnageeamappaaGreatDoorJAFrom
import Derived.Test.YtkcnageeamappaaGreatDoorJFPlain
namespace Go.Proofs
open Go.RowKit Go.Moor

set_option maxHeartbeats 1000000 in
theorem Tryz.optTell_any (o : Option Bs) (m : UInt8) (w : World) (hs : (o.getD []).length < 4294967281) :
    Calls Tryz.prog 92 #[.agg (optCells o), .string ⟨#[m]⟩] w fun e w' => e = .returned (.string ⟨(tellOpt m o).toArray⟩) ∧ Below w.heap.size w w' := by
  unfold optCells
  cases o with
  | none =>
    go_enter Tryz.func92, Tryz.ntmps92
    go_wp2
    go_ret
    exact ⟨rfl, (Below.refl _ _).alloc (Nat.le_refl _) _⟩
  | some x =>
    have hs2 : x.length < 4294967281 := hs
    have HA : Hid ((⟨#[m]⟩ : ByteArray) ++ ⟨x.toArray⟩ = ⟨(m :: x).toArray⟩) := app_mk [m] x
    show Calls Tryz.prog 92 #[.agg #[.bool true, .string ⟨x.toArray⟩], .string ⟨#[m]⟩] w _
    go_enter Tryz.func92, Tryz.ntmps92
    go_wp2
    go_ret
    exact ⟨congrArg (fun y => Ending.returned (Value.string y)) HA.out, (Below.refl _ _).alloc (Nat.le_refl _) _⟩

set_option maxHeartbeats 2000000 in
theorem Tryz.tellLogin_any (a : Auth) (w : World) (hu : a.user.length < 4294967281) (hp : a.pass.length < 4294967281) :
    Calls Tryz.prog 150 #[.agg (authCells a)] w fun e w' => e = .returned (.string ⟨(tellLogin a).toArray⟩) ∧ Below w.heap.size w w' := by
  obtain ⟨us, pa, ha, ho, po⟩ := a
  unfold authCells
  simp only at hu hp ⊢
  have HB : Hid (∀ o : Obj, Below w.heap.size w (w.alloc o)) := fun o => (Below.refl _ _).alloc (Nat.le_refl _) o
  by_cases hpe : pa = []
  · subst hpe
    have e1 := empty_yes
    by_cases hue : us = []
    · subst hue
      have HE : Hid (tellLogin ⟨[], [], ha, ho, po⟩ = []) := rfl
      go_enter Tryz.func150, Tryz.ntmps150
      go_wp2
      go_ret
      rw [HE.out]
      exact ⟨rfl, HB.out _⟩
    · have e2 := empty_no us hue
      have HE : Hid (tellLogin ⟨us, [], ha, ho, po⟩ = us ++ [64]) := by show _ = _; unfold tellLogin; rw [if_neg (by simp), if_pos hue]
      have HA : Hid ((⟨us.toArray⟩ : ByteArray) ++ ⟨#[64]⟩ = ⟨(us ++ [64]).toArray⟩) := app_mk us [64]
      have hsz : (⟨us.toArray⟩ : ByteArray).size = us.length := size_mk us
      obtain ⟨s, hsd⟩ : ∃ s : ByteArray, s = ⟨us.toArray⟩ := ⟨_, rfl⟩
      rw [← hsd] at e2 HA hsz ⊢
      clear hsd hue
      go_enter Tryz.func150, Tryz.ntmps150
      go_wp2
      go_ret
      rw [HE.out]
      exact ⟨congrArg (fun y => Ending.returned (Value.string y)) HA.out, HB.out _⟩
  · have e1 := empty_no pa hpe
    have HE : Hid (tellLogin ⟨us, pa, ha, ho, po⟩ = us ++ 58 :: (pa ++ [64])) := by show _ = _; unfold tellLogin; rw [if_pos hpe]
    have HA : Hid (((⟨us.toArray⟩ : ByteArray) ++ ⟨#[58]⟩) ++ ⟨pa.toArray⟩ ++ ⟨#[64]⟩ = ⟨(us ++ 58 :: (pa ++ [64])).toArray⟩) := by
      show _ = _
      have h1 : (⟨us.toArray⟩ : ByteArray) ++ ⟨#[58]⟩ = ⟨(us ++ [58]).toArray⟩ := app_mk us [58]
      rw [h1, app_mk (us ++ [58]) pa]
      have h2 : (⟨(us ++ [58] ++ pa).toArray⟩ : ByteArray) ++ ⟨#[64]⟩ = ⟨((us ++ [58] ++ pa) ++ [64]).toArray⟩ := app_mk _ [64]
      rw [h2]
      simp
    have hsz : (⟨us.toArray⟩ : ByteArray).size = us.length := size_mk us
    have hsp : (⟨pa.toArray⟩ : ByteArray).size = pa.length := size_mk pa
    obtain ⟨s, hsd⟩ : ∃ s : ByteArray, s = ⟨us.toArray⟩ := ⟨_, rfl⟩
    obtain ⟨r, hrd⟩ : ∃ r : ByteArray, r = ⟨pa.toArray⟩ := ⟨_, rfl⟩
    rw [← hsd] at HA hsz ⊢
    rw [← hrd] at e1 HA hsp ⊢
    clear hsd hrd hpe
    go_enter Tryz.func150, Tryz.ntmps150
    go_wp2
    go_ret
    rw [HE.out]
    exact ⟨congrArg (fun y => Ending.returned (Value.string y)) HA.out, HB.out _⟩

theorem below_grow (w : World) (n : Nat) (os : Array Obj) : Below w.heap.size w (Go.Sort.grow (w.drewN n) os) := by
  refine ⟨rfl, rfl, rfl, ?_, fun j hj => ?_⟩
  · show w.heap.size ≤ (w.heap ++ os).size
    rw [Array.size_append]
    omega
  · show (w.heap ++ os)[j]? = w.heap[j]?
    rw [Array.getElem?_append_left hj]
theorem itoa_nat (p : Nat) : Lib.itoa (p : Int) = Lib.decDigits p := by
  unfold Lib.itoa
  rw [if_neg (by omega)]
  simp

theorem dec_len5 (n : Nat) (h : n ≤ 65535) : (Lib.decDigits n).length ≤ 10 := by
  rw [← digs_dec 9 n (by omega)]
  exact digs_len 10 9 n

set_option maxHeartbeats 2000000 in
theorem Tryz.tellPlace_any (a : Auth) (w : World) (hh : a.host.length < 4294967281) (hp : a.port = -1 ∨ (0 ≤ a.port ∧ a.port ≤ 65535)) (henv : Tryz.Env2 w) :
    Calls Tryz.prog 127 #[.agg (authCells a)] w fun e w' => e = .returned (.string ⟨(tellPlace a).toArray⟩) ∧ Below w.heap.size w w' := by
  obtain ⟨us, pa, ha, ho, po⟩ := a
  unfold authCells
  simp only at hh hp ⊢
  have HB : Hid (∀ o : Obj, Below w.heap.size w (w.alloc o)) := fun o => (Below.refl _ _).alloc (Nat.le_refl _) o
  by_cases hpo : po = -1
  · subst hpo
    have HE : Hid (tellPlace ⟨us, pa, ha, ho, -1⟩ = ho) := by show _ = _; unfold tellPlace; rw [if_pos rfl]
    go_enter Tryz.func127, Tryz.ntmps127
    go_wp2
    go_ret
    rw [HE.out]
    exact ⟨rfl, HB.out _⟩
  · obtain ⟨n, rfl⟩ : ∃ n : Nat, po = (n : Int) := ⟨po.toNat, by omega⟩
    have hn : n ≤ 65535 := by omega
    have HE : Hid (tellPlace ⟨us, pa, ha, ho, (n : Int)⟩ = ho ++ 58 :: Lib.decDigits n) := by
      show _ = _
      unfold tellPlace
      rw [if_neg hpo]
      show ho ++ 58 :: Lib.decDigits ((n : Int).toNat) = _
      rw [Int.toNat_natCast]
    have hne : ((n : Int) == -1) = false := beq_eq_false_iff_ne.2 hpo
    obtain ⟨W, hW⟩ : ∃ W, W = w.alloc (.cells #[.string ⟨us.toArray⟩, .string ⟨pa.toArray⟩, .bool ha, .string ⟨ho.toArray⟩, .int .i64 (n : Int)] 71) := ⟨_, rfl⟩
    have HBW : Hid (Below w.heap.size w W) := by rw [hW]; exact HB.out _
    have hWz : W.heap.size = w.heap.size + 1 := by rw [hW]; simp
    have HI : Hid (∀ w0, Below W.heap.size W w0 → Calls Tryz.prog 106 #[.int .i64 (n : Int)] w0 fun e w' => e = .returned (.string ⟨(Lib.decDigits n).toArray⟩) ∧ Below W.heap.size W w') := by
      intro w0 h0
      have hv := (henv.below (HBW.out.trans (h0.mono (by omega)))).env
      refine (Tryz.strconv_Itoa (n : Int) (by omega) (by omega) w0 hv.pow10).mono ?_
      rintro e w' ⟨rfl, k, os, rfl⟩
      exact ⟨by rw [itoa_nat], h0.trans ((below_grow _ _ _).mono h0.size)⟩
    have HC : Hid (∀ w1, Below W.heap.size W w1 → w1.cell? ⟨w.heap.size, 3, none⟩ = some (.string ⟨ho.toArray⟩) ∧ w1.cell? ⟨w.heap.size, 4, none⟩ = some (.int .i64 (n : Int))) := by
      intro w1 h1
      have k0 : w1.heap[w.heap.size]? = some (.cells #[.string ⟨us.toArray⟩, .string ⟨pa.toArray⟩, .bool ha, .string ⟨ho.toArray⟩, .int .i64 (n : Int)] 71 (0, 0)) := by
        rw [h1.block w.heap.size (by omega), hW]
        exact alloc_here w _ _
      exact ⟨cell_heap k0 3, cell_heap k0 4⟩
    have HA : Hid ((⟨ho.toArray⟩ : ByteArray) ++ ⟨#[58]⟩ ++ ⟨(Lib.decDigits n).toArray⟩ = ⟨(ho ++ 58 :: Lib.decDigits n).toArray⟩) := by
      show _ = _
      have h1 : (⟨ho.toArray⟩ : ByteArray) ++ ⟨#[58]⟩ = ⟨(ho ++ [58]).toArray⟩ := app_mk ho [58]
      rw [h1, app_mk (ho ++ [58]) _]
      simp
    have hdl : (Lib.decDigits n).length ≤ 10 := dec_len5 n hn
    generalize Lib.decDigits n = D at *
    obtain ⟨c3, c4⟩ := HC.out W (Below.refl _ _)
    clear henv hp hpo
    go_enter Tryz.func127, Tryz.ntmps127
    go_wp2_with fail
    rw [← hW]
    clear hW
    go_region_with (go_at_call 106; refine Calls.mono (HI.out _ (by exact same_heap rfl rfl rfl rfl)) ?_; rintro e w1 ⟨rfl, b1⟩; obtain ⟨d3, d4⟩ := HC.out w1 b1)
    all_goals
      go_wp2
      go_ret
      rw [HE.out]
      exact ⟨congrArg (fun y => Ending.returned (Value.string y)) HA.out, HBW.out.trans (b1.mono (by omega))⟩
end Go.Proofs
/-
  What tellFileHost of package address answers.
-/
namespace Go.Proofs
open Go.RowKit Go.Moor

def wLocal : Bs := [108, 111, 99, 97, 108, 104, 111, 115, 116]
set_option maxHeartbeats 2000000 in
theorem Tryz.tellFileHost_any (t : Bs) (w : World) (hs : t.length < 4294967281) (henv : Tryz.Env2 w) :
    Calls Tryz.prog 211 #[.string ⟨t.toArray⟩] w fun e w' => Tryz.TextRes 4 (fileHost hostTell t) e ∧ Below w.heap.size w w' := by
  have HT : Hid (Calls Tryz.prog 32 #[.string ⟨t.toArray⟩, .bool true] w fun e w' => Tryz.TellRes ⟨t.toArray⟩ (hostTell t true) e ∧ Below w.heap.size w w') := Tryz.Tell_any ⟨t.toArray⟩ true w (by rw [size_mk]; exact hs) henv.env henv.tz
  clear henv hs
  by_cases ht : t = []
  · subst ht
    have HE : Hid (fileHost hostTell [] = some []) := rfl
    have e1 := empty_yes
    go_enter Tryz.func211, Tryz.ntmps211
    go_wp2
    go_ret2
    rw [HE.out]
    exact ⟨rfl, Below.refl _ _⟩
  · have HE : Hid (fileHost hostTell t = match hostTell t true with | none => none | some h => if h = wLocal then some [] else some h) := by
      show _ = _
      unfold fileHost
      rw [if_neg ht]
      rfl
    have e1 := empty_no t ht
    generalize hostTell t true = o at *
    obtain ⟨s, hsd⟩ : ∃ s : ByteArray, s = ⟨t.toArray⟩ := ⟨_, rfl⟩
    rw [← hsd] at e1 HT ⊢
    clear ht hsd
    cases o with
    | none =>
      have HE2 : Hid (fileHost hostTell t = none) := HE.out
      clear HE
      go_enter Tryz.func211, Tryz.ntmps211
      go_wp2_with fail
      refine HT.out.mono ?_
      rintro e w1 ⟨⟨t2, v2, rfl⟩, b1⟩
      go_wp2
      go_ret2
      rw [HE2.out]
      exact ⟨⟨_, _, _, _, rfl⟩, b1⟩
    | some h =>
      by_cases hl : h = wLocal
      · have HE2 : Hid (fileHost hostTell t = some []) := by
          have := HE.out
          simp only at this
          rw [if_pos hl] at this
          exact this
        subst hl
        clear HE
        unfold wLocal at HT
        go_enter Tryz.func211, Tryz.ntmps211
        go_wp2_with fail
        refine HT.out.mono ?_
        rintro e w1 ⟨he, b1⟩
        have he2 : e = .returned (.tuple #[.string ⟨#[108, 111, 99, 97, 108, 104, 111, 115, 116]⟩, .nilIface]) := he
        subst he2
        go_wp2
        go_ret2
        rw [HE2.out]
        exact ⟨rfl, b1⟩
      · have HE2 : Hid (fileHost hostTell t = some h) := by
          have := HE.out
          simp only at this
          rw [if_neg hl] at this
          exact this
        have e2 := mk_ne h _ hl
        unfold wLocal at e2
        obtain ⟨r, hrd⟩ : ∃ r : ByteArray, r = ⟨h.toArray⟩ := ⟨_, rfl⟩
        rw [← hrd] at e2
        have HRD : Hid (r = ⟨h.toArray⟩) := hrd
        clear HE hl hrd
        go_enter Tryz.func211, Tryz.ntmps211
        go_wp2_with fail
        refine HT.out.mono ?_
        rintro e w1 ⟨he, b1⟩
        have he2 : e = .returned (.tuple #[.string r, .nilIface]) := by rw [HRD.out]; exact he
        subst he2
        clear he
        go_wp2
        go_ret2
        rw [HE2.out, HRD.out]
        exact ⟨rfl, b1⟩
end Go.Proofs
/-
  What readFileHost of package address does to the address that it is handed.
-/
namespace Go.Proofs
open Go.RowKit Go.Moor

/-- The host's cell and the segments that are left in the address's block, or the error. -/
def Tryz.FileRes (k : Nat) (sc : Bs) (c1 c2 c3 c5 c9 c10 c11 c12 : Value) (B : Nat) (o : Except Int (Value × List Bs)) (e : Ending) (w' : World) : Prop :=
  match o with
  | .error n => ∃ x y te ve, e = .returned (.iface 96 (.agg #[.int .i64 n, .string x, .string y, .iface te ve]))
  | .ok (h, segs) => e = .returned .nilIface ∧ ∃ v, w'.heap[k]? = some (.cells #[.string ⟨sc.toArray⟩, c1, c2, c3, h, c5, .bool false, .string ⟨#[]⟩, v, c9, c10, c11, c12] 77 (0, 0)) ∧ w'.ownsRow B 9 1 v segs.length (strs segs)
def fileRead (sc t : Bs) (c4 : Value) : Except Int (Value × List Bs) :=
  if isDrive (cutSlash t).1 = true then .ok (c4, readSegs sc [] t)
  else match fileHost hostTell (cutSlash t).1 with
    | none => .error 4
    | some h => .ok (.string ⟨h.toArray⟩, readSegs sc [] (cutSlash t).2)

set_option maxHeartbeats 4000000 in
theorem Tryz.readFileHost_any (k : Nat) (sc t : Bs) (c1 c2 c3 c4 c5 c6 c7 c8 c9 c10 c11 c12 : Value) (w : World) (ht : t.length ≤ 100000)
    (hk : w.heap[k]? = some (.cells #[.string ⟨sc.toArray⟩, c1, c2, c3, c4, c5, c6, c7, c8, c9, c10, c11, c12] 77 (0, 0))) (hkg : 29 ≤ k) (henv : Tryz.Env2 w) :
    Calls Tryz.prog 278 #[.pointer (some ⟨k, 0, none⟩), .string ⟨t.toArray⟩] w fun e w' => But k w w' ∧ Tryz.FileRes k sc c1 c2 c3 c5 c9 c10 c11 c12 w.heap.size (fileRead sc t c4) e w' ∧ (∀ n, fileRead sc t c4 = .error n → w'.heap[k]? = w.heap[k]?) := by
  have hkz : k < w.heap.size := (Array.getElem?_eq_some_iff.1 hk).1
  have hl := cutSlash_len t
  have HCS : Hid (Calls Tryz.prog 281 #[.string ⟨t.toArray⟩] w fun e w' => e = .returned (.tuple #[.string ⟨(cutSlash t).1.toArray⟩, .string ⟨(cutSlash t).2.toArray⟩]) ∧ Below w.heap.size w w') := by
    refine (Tryz.cutAtSlash_any t w).mono ?_
    rintro e w' ⟨rfl, n, rfl⟩
    exact ⟨rfl, drew_here _ _ _⟩
  have HE : Hid (fileRead sc t c4 = if isDrive (cutSlash t).1 = true then .ok (c4, readSegs sc [] t) else match fileHost hostTell (cutSlash t).1 with | none => .error 4 | some h => .ok (.string ⟨h.toArray⟩, readSegs sc [] (cutSlash t).2)) := rfl
  generalize (cutSlash t).1 = ah at *
  generalize (cutSlash t).2 = be at *
  have HID : Hid (∀ w1, Calls Tryz.prog 286 #[.string ⟨ah.toArray⟩] w1 fun e w' => e = .returned (.bool (isDrive ah)) ∧ w' = w1) := fun w1 => Tryz.isDrive_any ah w1 (by omega)
  have HFH : Hid (∀ w1, Below w.heap.size w w1 → Calls Tryz.prog 211 #[.string ⟨ah.toArray⟩] w1 fun e w' => Tryz.TextRes 4 (fileHost hostTell ah) e ∧ Below w.heap.size w w') := by
    intro w1 h1
    refine (Tryz.tellFileHost_any ah w1 (by omega) (henv.below h1)).mono ?_
    rintro e w' ⟨hr, hb⟩
    exact ⟨hr, h1.trans (hb.mono h1.size)⟩
  have HK : Hid (∀ w1, Below w.heap.size w w1 → w1.heap[k]? = some (.cells #[.string ⟨sc.toArray⟩, c1, c2, c3, c4, c5, c6, c7, c8, c9, c10, c11, c12] 77 (0, 0))) := fun w1 h1 => (h1.block k hkz).trans hk
  have HRP : Hid (∀ (h : Value) (u : Bs) w1, u.length ≤ 100000 → But k w w1 → w1.heap[k]? = some (.cells #[.string ⟨sc.toArray⟩, c1, c2, c3, h, c5, c6, c7, c8, c9, c10, c11, c12] 77 (0, 0)) → Calls Tryz.prog 163 #[.pointer (some ⟨k, 0, none⟩), .slice none 0 0, .string ⟨u.toArray⟩] w1 fun e w' => e = .returned (.tuple #[]) ∧ But k w w' ∧ ∃ v, w'.heap[k]? = some (.cells #[.string ⟨sc.toArray⟩, c1, c2, c3, h, c5, .bool false, .string ⟨#[]⟩, v, c9, c10, c11, c12] 77 (0, 0)) ∧ w'.ownsRow w.heap.size 9 1 v (readSegs sc [] u).length (strs (readSegs sc [] u))) := by
    intro h u w1 hu h1 hh
    refine (Tryz.readPath_any k sc u _ _ _ _ _ c6 c7 c8 c9 c10 c11 c12 none 0 [] w1 hu (by simp) (by simp) hh (by simp) (henv.but h1 hkg)).mono ?_
    rintro e w' ⟨rfl, hb, v, h2, h3⟩
    exact ⟨rfl, h1.trans hb, v, h2, But.mono_own h3 h1.size⟩
  have hbe : be.length ≤ 100000 := by omega
  clear henv hk hl
  cases hd : isDrive ah with
  | true =>
    have HE2 : Hid (fileRead sc t c4 = .ok (c4, readSegs sc [] t)) := by show _ = _; rw [HE.out, if_pos hd]
    rw [hd] at HID
    clear hd HE
    go_enter Tryz.func278, Tryz.ntmps278
    go_wp2_with fail
    refine HCS.out.mono ?_
    rintro e w1 ⟨rfl, b1⟩
    go_wp2_with fail
    refine (HID.out w1).mono ?_
    rintro e w2 ⟨rfl, hw0⟩
    have hw0 := hw0.symm
    subst hw0
    have HRP2 : Hid _ := HRP.out c4 t w1 ht (But.of_below b1) (HK.out w1 b1)
    go_wp2_with fail
    refine Calls.mono HRP2.out ?_
    rintro e w3 ⟨rfl, hb3, v, h3, ho3⟩
    have HF : Hid (Tryz.FileRes k sc c1 c2 c3 c5 c9 c10 c11 c12 w.heap.size (.ok (c4, readSegs sc [] t)) (.returned .nilIface) w3) := ⟨rfl, v, h3, ho3⟩
    have HB3 : Hid (But k w w3) := hb3
    clear hb3 h3 ho3
    go_wp2
    go_ret
    rw [HE2.out]
    exact ⟨HB3.out, HF.out, fun n h => by cases h⟩
  | false =>
    rw [hd] at HID
    cases hf : fileHost hostTell ah with
    | none =>
      have HE2 : Hid (fileRead sc t c4 = .error 4) := by show _ = _; rw [HE.out, if_neg (by simp [hd]), hf]
      rw [hf] at HFH
      clear hd hf HE
      go_enter Tryz.func278, Tryz.ntmps278
      go_wp2_with fail
      refine HCS.out.mono ?_
      rintro e w1 ⟨rfl, b1⟩
      go_wp2_with fail
      refine (HID.out w1).mono ?_
      rintro e w2 ⟨rfl, hw0⟩
      have hw0 := hw0.symm
      subst hw0
      go_wp2_with fail
      refine (HFH.out w1 b1).mono ?_
      rintro e w2 ⟨⟨x, y, te, ve, rfl⟩, b2⟩
      go_wp2
      go_ret
      rw [HE2.out]
      exact ⟨But.of_below b2, ⟨_, _, _, _, rfl⟩, fun _ _ => b2.block k hkz⟩
    | some h =>
      have HE2 : Hid (fileRead sc t c4 = .ok (.string ⟨h.toArray⟩, readSegs sc [] be)) := by show _ = _; rw [HE.out, if_neg (by simp [hd]), hf]
      rw [hf] at HFH
      clear hd hf HE
      go_enter Tryz.func278, Tryz.ntmps278
      go_wp2_with fail
      refine HCS.out.mono ?_
      rintro e w1 ⟨rfl, b1⟩
      go_wp2_with fail
      refine (HID.out w1).mono ?_
      rintro e w2 ⟨rfl, hw0⟩
      have hw0 := hw0.symm
      subst hw0
      go_wp2_with fail
      refine (HFH.out w1 b1).mono ?_
      rintro e w2 ⟨he, b2⟩
      have he2 : e = .returned (.tuple #[.string ⟨h.toArray⟩, .nilIface]) := he
      subst he2
      have hk2 := HK.out w2 b2
      have e4 : w2.cell? ⟨k, 4, none⟩ = some c4 := cell_heap hk2 4
      have f4 := frozen_heap hk2 4
      have g4 := heap_setCell_same w2 k 4 _ 77 (.string ⟨h.toArray⟩) hk2
      have HRP2 : Hid _ := HRP.out (.string ⟨h.toArray⟩) be _ hbe ((But.of_below (k := k) b2).setCell 4 (.string ⟨h.toArray⟩)) g4
      clear he b1 b2 hk2 g4
      go_wp2_with fail
      refine Calls.mono HRP2.out ?_
      rintro e w3 ⟨rfl, hb3, v, h3, ho3⟩
      have HF : Hid (Tryz.FileRes k sc c1 c2 c3 c5 c9 c10 c11 c12 w.heap.size (.ok (.string ⟨h.toArray⟩, readSegs sc [] be)) (.returned .nilIface) w3) := ⟨rfl, v, h3, ho3⟩
      have HB3 : Hid (But k w w3) := hb3
      clear hb3 h3 ho3
      go_wp2
      go_ret
      rw [HE2.out]
      exact ⟨HB3.out, HF.out, fun n h => by cases h⟩
end Go.Proofs
