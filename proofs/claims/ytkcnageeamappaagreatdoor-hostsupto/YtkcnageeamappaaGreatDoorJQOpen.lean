/-
  What Host of package moorref answers: of a text in brackets, and where the scheme is not special.
-/
import Derived.Test.YtkcnageeamappaaGreatDoorJQ11
import Derived.Test.YtkcnageeamappaaGreatDoorJASegs
import Derived.Test.YtkcnageeamappaaGreatDoorJABound
import Derived.Test.YtkcnageeamappaaGreatDoorRows
import Derived.WalkKit
import Derived.ProofKit
import Derived.OpenShut
import Derived.Carry
import Derived.Deep.Slices
import Derived.Deep.Strs
namespace Go.Proofs
open Go.RowKit Go.Moor

def RHostRes (o : Option Bs) (e : Ending) : Prop :=
  match o with
  | some t => e = .returned (.tuple #[.string ⟨t.toArray⟩, .bool true])
  | none => ∃ x, e = .returned (.tuple #[.string x, .bool false])

theorem forb_fin : ∀ c : Fin 256, forbP.contains c.val.toUInt8 = badP c.val.toUInt8 := by decide +kernel
theorem forb_is (c : UInt8) : forbP.contains c = badP c := by
  have h := forb_fin ⟨c.toNat, c.toNat_lt⟩
  simp only at h
  rw [show c.toNat.toUInt8 = c by simp] at h
  exact h
theorem badS_fin : ∀ c : Fin 256, badS c.val.toUInt8 = (badP c.val.toUInt8 || (decide (c.val < 32) || (decide (c.val = 37) || decide (126 < c.val)))) := by decide +kernel
theorem badS_is (c : UInt8) : badS c = (badP c || (decide (c.toNat < 32) || (decide (c.toNat = 37) || decide (126 < c.toNat)))) := by
  have h := badS_fin ⟨c.toNat, c.toNat_lt⟩
  simp only at h
  rw [show c.toNat.toUInt8 = c by simp] at h
  exact h
theorem suffix_snoc (m : Bs) (c : UInt8) : Lib.hasSuffix (m ++ [c]) [93] = decide (c = 93) := by
  unfold Lib.hasSuffix
  rw [Bool.eq_iff_iff, List.isSuffixOf_iff_suffix, decide_eq_true_eq]
  constructor
  · rintro ⟨t, ht⟩
    have := List.append_inj_right' ht rfl
    injection this with h
    exact h.symm
  · rintro rfl
    exact ⟨m, rfl⟩
theorem ints8_nats (ps : List Int) (h : ∀ p ∈ ps, okPiece p) : ints8 ps = ((ps.map Int.toNat).map fun p => Value.int .i64 (p : Nat)).toArray := by
  unfold ints8
  rw [List.map_map]
  congr 1
  refine List.map_congr_left fun p hp => ?_
  have := (h p hp).1
  simp
  omega

set_option maxHeartbeats 8000000 in
set_option maxRecDepth 8000 in
theorem Tryz.rhost_six (s : ByteArray) (sp : Bool) (w : World) (hs : s.size ≤ 2000) (hpf : Lib.hasPrefix s.data.toList [91] = true) :
    Calls Tryz.prog 67 #[.string s, .bool sp] w fun e w' => RHostRes (bracketed (s.data.toList.drop 1)) e ∧ Below w.heap.size w w' := by
  obtain ⟨l, hl⟩ : ∃ l, l = s.data.toList := ⟨_, rfl⟩
  have HLN : Hid (l.length = s.size) := by show _ = _; rw [hl, Array.length_toList]; rfl
  have HG : Hid (∀ (k : Nat) (h : k < s.size) (h2 : k < l.length), l[k] = s[k]) := by
    intro k h h2
    subst hl
    simp
    rfl
  have HXT : Hid (∀ i j : Nat, s.extract i j = ⟨((l.drop i).take (j - i)).toArray⟩) := by
    intro i j
    rw [hl]
    exact extract_list s i j
  rw [← hl] at hpf ⊢
  clear hl
  rw [prefix_head, decide_eq_true_eq] at hpf
  obtain ⟨r, hr⟩ : ∃ r, l = 91 :: r := by
    cases l with
    | nil => simp at hpf
    | cons x r => simp at hpf; exact ⟨r, by rw [hpf]⟩
  have h0 : 0 < s.size := by rw [← HLN.out, hr]; simp
  obtain ⟨k, hk⟩ : ∃ k, s.size = k + 1 := ⟨s.size - 1, by omega⟩
  have h91 : ((s[0].toNat : Int) == 91) = true := by
    have h2 : 0 < l.length := by rw [HLN.out]; exact h0
    rw [← HG.out 0 h0 h2]
    have : l[0]? = some 91 := by rw [hr]; rfl
    rw [List.getElem?_eq_getElem h2] at this
    rw [Option.some.inj this]
    rfl
  have hks : k < s.size := by omega
  have hkl : k < l.length := by rw [HLN.out]; exact hks
  have HKE : Hid (l[k] = s[k]) := HG.out k hks hkl
  have HD1 : Hid (l.drop 1 = r) := by show _ = _; rw [hr]; rfl
  suffices key : ∀ res : Option Bs, Hid (res = bracketed (l.drop 1)) → Calls Tryz.prog 67 #[.string s, .bool sp] w fun e w' => RHostRes res e ∧ Below w.heap.size w w' from key _ rfl
  intro res HRES
  by_cases h93 : s[k] = 93
  · have hk0 : 0 < k := by
      rcases Nat.eq_zero_or_pos k with h | h
      · subst h
        rw [h93] at h91
        simp at h91
      · exact h
    obtain ⟨m, hm⟩ : ∃ m, r = m ++ [93] := by
      have h1 : r.length = k := by have := HLN.out; rw [hr, hk] at this; simpa using this
      have h2 : r ≠ [] := by intro h; rw [h] at h1; simp at h1; omega
      refine ⟨r.dropLast, ?_⟩
      have h3 := List.dropLast_concat_getLast h2
      rw [← h3]
      have h4 : r.getLast h2 = 93 := by
        rw [← h93, ← HKE.out, List.getLast_eq_getElem]
        simp only [hr, h1]
        rw [List.getElem_cons, dif_neg (by omega)]
      rw [h4]
      simp
    have hml : m.length + 1 = k := by
      have := HLN.out
      rw [hr, hk, hm] at this
      simpa using this
    have HX : Hid (s.extract 1 k = ⟨m.toArray⟩) := by
      show _ = _
      rw [HXT.out 1 k, HD1.out, hm, List.take_append_of_le_length (by omega), List.take_of_length_le (by omega)]
    have HBR : Hid (res = match sixOf m with | some ps => some ([91] ++ (sixTell (ps.map Int.toNat) ++ [93])) | none => none) := by
      show _ = _
      have hsf := suffix_snoc m 93
      have htr : Lib.trimSuffix (m ++ [93]) [93] = m := by
        unfold Lib.trimSuffix
        rw [hsf]
        simp
      rw [HRES.out, HD1.out, hm]
      unfold bracketed
      rw [hsf, if_pos (by simp), htr]
      cases sixOf m <;> rfl
    have HSX : Hid (Calls Tryz.prog 116 #[.string (s.extract 1 k)] w fun e w' => SixPs (sixOf m) e ∧ Below w.heap.size w w') := by
      show Calls _ _ _ _ _
      have := Tryz.rsix_any (s.extract 1 k) w (by simp; omega)
      rw [HX.out] at this ⊢
      rw [← scan_six]
      exact this
    have h93p : (s[k].toNat : Int) = 93 := by rw [h93]; rfl
    have hk1 : (s.size : Int) - 1 = (k : Int) := by omega
    have hn1 : ((s.size : Int) == 1) = false := by rw [beq_eq_false_iff_ne]; omega
    have hki1 : (1 : Int) ≤ (k : Int) := by omega
    have hki2 : (k : Int) ≤ (s.size : Int) := by omega
    have h0i : (0 : Int) < (s.size : Int) := by omega
    clear hr hm hml h93 hpf HD1 HRES HXT HG hk
    cases hso : sixOf m with
    | none =>
      have HN : Hid (res = none) := by show _ = _; rw [HBR.out, hso]
      rw [hso] at HSX
      clear hso
      go_enter Tryz.func67, Tryz.ntmps67
      go_wp2_with fail
      refine Calls.mono HSX.out ?_
      rintro e w1 ⟨⟨r8, hr8, rfl⟩, hb1⟩
      have hw1 := hb1.size
      have HA : Hid ((w1.alloc (.cells (ints8 zero8) 34)).heap[w1.heap.size]? = some (.cells (ints8 zero8) 34 (0, 0))) := heap_alloc_new w1 _
      have HS8 : Hid ((Tryz.prog.info? 34).map (·.size) = some (ints8 r8).size) := by show _ = _; rw [ints8_size, hr8]; exact Tryz.size8i
      have HS88 : Hid ((ints8 zero8).size = (ints8 r8).size) := by show _ = _; rw [ints8_size r8, hr8]; rfl
      go_wp2_with (refine wpList_store_row rfl 34 _ _ rfl w1.heap.size (ints8 r8) rfl rfl 34 (ints8 zero8) HA.out HS8.out HS88.out (ints8_one _) ?_)
      go_ret2
      rw [HN.out]
      exact ⟨⟨_, rfl⟩, below_setRow (hb1.alloc hw1 _) hw1 _⟩
    | some ps =>
      obtain ⟨h8, hok⟩ := sixOf_ok m ps hso
      have HRS : Hid (res = some ([91] ++ (sixTell (ps.map Int.toNat) ++ [93]))) := by show _ = _; rw [HBR.out, hso]
      rw [hso] at HSX
      have HTE : Hid (∀ W, Calls Tryz.prog 117 #[.agg (ints8 ps)] W fun e w' => e = .returned (.string ⟨(sixTell (ps.map Int.toNat)).toArray⟩) ∧ Below W.heap.size W w') := by
        intro W
        rw [ints8_nats ps hok]
        exact Tryz.rtell_any (ps.map Int.toNat) (by rw [List.length_map]; exact h8) (fun p hp => by
          obtain ⟨q, hq, rfl⟩ := List.mem_map.1 hp
          have := hok q hq
          unfold okPiece at this
          omega) W
      have hsl := sixTell_len (ps.map Int.toNat) (by rw [List.length_map]; exact h8)
      have HAP : Hid ((⟨#[91]⟩ : ByteArray) ++ ⟨(sixTell (ps.map Int.toNat)).toArray⟩ ++ ⟨#[93]⟩ = ⟨([91] ++ (sixTell (ps.map Int.toNat) ++ [93])).toArray⟩) := by
        show _ = _
        have e1 : (⟨#[91]⟩ : ByteArray) ++ ⟨(sixTell (ps.map Int.toNat)).toArray⟩ = ⟨([91] ++ sixTell (ps.map Int.toNat)).toArray⟩ := app_mk [91] _
        rw [e1]
        exact (app_mk _ [93]).trans (by rw [List.append_assoc])
      have hz : (⟨(sixTell (ps.map Int.toNat)).toArray⟩ : ByteArray).size ≤ 82 := by rw [size_mk]; exact hsl
      generalize (⟨(sixTell (ps.map Int.toNat)).toArray⟩ : ByteArray) = tx at *
      have z91 : (⟨#[91]⟩ : ByteArray).size = 1 := rfl
      have z93 : (⟨#[93]⟩ : ByteArray).size = 1 := rfl
      have g0 : ∀ W : World, (Op.stringOp .add ⟨#[91]⟩ tx).run Tryz.prog W = .ok (.string (⟨#[91]⟩ ++ tx)) W := fun W => run_string_add_sum W _ _ (by omega)
      have g1 : ∀ W : World, (Op.stringOp .add (⟨#[91]⟩ ++ tx) ⟨#[93]⟩).run Tryz.prog W = .ok (.string (⟨#[91]⟩ ++ tx ++ ⟨#[93]⟩)) W := fun W => run_string_add_sum W _ _ (by simp only [ByteArray.size_append]; omega)
      have HS8 : Hid ((Tryz.prog.info? 34).map (·.size) = some (ints8 ps).size) := by show _ = _; rw [ints8_size, h8]; exact Tryz.size8i
      have HS88 : Hid ((ints8 zero8).size = (ints8 ps).size) := by show _ = _; rw [ints8_size ps, h8]; rfl
      clear hso hok h8 hsl hz z91 z93 HBR
      go_enter Tryz.func67, Tryz.ntmps67
      go_wp2_with fail
      refine Calls.mono HSX.out ?_
      rintro e w1 ⟨hx, hb1⟩
      have hx : e = _ := hx
      subst hx
      have hw1 := hb1.size
      have HA : Hid ((w1.alloc (.cells (ints8 zero8) 34)).heap[w1.heap.size]? = some (.cells (ints8 zero8) 34 (0, 0))) := heap_alloc_new w1 _
      have HA2 : Hid (((w1.alloc (.cells (ints8 zero8) 34)).setRow w1.heap.size (ints8 ps)).heap[w1.heap.size]? = some (.cells (ints8 ps) 34 (0, 0))) := setRow_heap _ w1.heap.size (ints8 zero8) (ints8 ps) 34 (0, 0) HA.out
      have HBB : Hid (Below w.heap.size w ((w1.alloc (.cells (ints8 zero8) 34)).setRow w1.heap.size (ints8 ps))) := below_setRow (hb1.alloc hw1 _) hw1 _
      clear hb1
      go_wp2_with (first | refine wpList_store_row rfl 34 _ _ rfl w1.heap.size (ints8 ps) rfl rfl 34 (ints8 zero8) HA.out HS8.out HS88.out (ints8_one _) ?_ | refine wpList_load_row rfl 34 _ rfl w1.heap.size rfl 34 (ints8 ps) (0, 0) _ HA2.out Tryz.underlying34 rfl HS8.out ?_)
      refine Calls.mono (HTE.out _) ?_
      rintro e w2 ⟨rfl, hb2⟩
      have HB2 : Hid (Below w.heap.size w w2) := HBB.out.trans (hb2.mono HBB.out.size)
      clear hb2
      go_wp2
      go_ret2
      rw [HRS.out]
      refine ⟨?_, HB2.out⟩
      show _ = Ending.returned (.tuple #[.string ⟨([91] ++ (sixTell (ps.map Int.toNat) ++ [93])).toArray⟩, .bool true])
      rw [← HAP.out]
      rfl
  · have HN : Hid (res = none) := by
      show _ = _
      rw [HRES.out, HD1.out]
      unfold bracketed
      rw [if_neg]
      intro h
      by_cases hr0 : r = []
      · rw [hr0] at h; simp [Lib.hasSuffix] at h
      · have h3 := List.dropLast_concat_getLast hr0
        rw [← h3, suffix_snoc, decide_eq_true_eq] at h
        apply h93
        have h1 : r.length = k := by have := HLN.out; rw [hr, hk] at this; simpa using this
        rw [← HKE.out, ← h, List.getLast_eq_getElem]
        have hk0 : 0 < k := by rw [← h1]; exact List.length_pos_iff.2 hr0
        simp only [hr, h1]
        rw [List.getElem_cons, dif_neg (by omega)]
    have h93p : ¬ (s[k].toNat : Int) = 93 := by
      intro h
      exact h93 (UInt8.toNat_inj.1 (by show s[k].toNat = 93; omega))
    have hk1 : (s.size : Int) - 1 = (k : Int) := by omega
    have h0i : (0 : Int) < (s.size : Int) := by omega
    clear hr h93 hpf HD1 HRES HXT HG hk
    go_enter Tryz.func67, Tryz.ntmps67
    go_wp2
    go_ret2
    rw [HN.out]
    exact ⟨⟨_, rfl⟩, Below.refl _ _⟩
end Go.Proofs
/-
  What Host of package moorref answers: where the scheme is not special, and where it is.
-/
namespace Go.Proofs
open Go.RowKit Go.Moor

theorem Tryz.rforb_any (c : UInt8) (w : World) : Calls Tryz.prog 110 #[.string ⟨#[0, 9, 10, 13, 32, 35, 47, 58, 60, 62, 63, 64, 91, 92, 93, 94, 124]⟩, .int .u8 c.toNat] w fun e w' => e = .returned (.bool (badP c)) ∧ w' = w := by
  have h := Tryz.rhas_any ⟨#[0, 9, 10, 13, 32, 35, 47, 58, 60, 62, 63, 64, 91, 92, 93, 94, 124]⟩ c w (by decide)
  have e : (⟨#[0, 9, 10, 13, 32, 35, 47, 58, 60, 62, 63, 64, 91, 92, 93, 94, 124]⟩ : ByteArray).data.toList.contains c = badP c := forb_is c
  rw [e] at h
  exact h
theorem no_bracket (s : ByteArray) (h : Lib.hasPrefix s.data.toList [91] = false) : (¬ (0 : Int) < (s.size : Int)) ∨ ((0 : Int) < (s.size : Int) ∧ ∃ h0 : 0 < s.size, ((s[0].toNat : Int) == 91) = false) := by
  by_cases h0 : 0 < s.size
  · right
    refine ⟨by omega, h0, ?_⟩
    rw [beq_eq_false_iff_ne]
    intro hc
    have : s[0] = 91 := UInt8.toNat_inj.1 (by show s[0].toNat = 91; omega)
    rw [prefix_head, decide_eq_false_iff_not] at h
    apply h
    have hl : 0 < s.data.toList.length := by rw [Array.length_toList]; exact h0
    rw [List.head?_eq_getElem?, List.getElem?_eq_getElem hl, ← this]
    rfl
  · left
    omega

set_option maxHeartbeats 8000000 in
set_option maxRecDepth 8000 in
theorem Tryz.rhost_plain (s : ByteArray) (w : World) (hs : s.size ≤ 2000) (hpf : Lib.hasPrefix s.data.toList [91] = false) :
    Calls Tryz.prog 67 #[.string s, .bool false] w fun e w' => RHostRes (hostPlain s.data.toList) e ∧ Below w.heap.size w w' := by
  have HES : Hid (Calls Tryz.prog 40 #[.string s, .int .i64 0] w fun e w' => e = .returned (.string ⟨(esc 0 s.data.toList).toArray⟩) ∧ Below w.heap.size w w') := Tryz.rEscape_any s 0 w (by omega)
  have HFO : Hid (∀ (c : UInt8) w1, Calls Tryz.prog 110 #[.string ⟨#[0, 9, 10, 13, 32, 35, 47, 58, 60, 62, 63, 64, 91, 92, 93, 94, 124]⟩, .int .u8 c.toNat] w1 fun e w' => e = .returned (.bool (badP c)) ∧ w' = w1) := fun c w1 => Tryz.rforb_any c w1
  suffices key : ∀ res : Option Bs, Hid (res = hostPlain s.data.toList) → Calls Tryz.prog 67 #[.string s, .bool false] w fun e w' => RHostRes res e ∧ Below w.heap.size w w' from key _ rfl
  intro res HRES
  rcases no_bracket s hpf with h0 | ⟨h0, h1, h2⟩
  all_goals
    go_enter Tryz.func67, Tryz.ntmps67
    go_wp2_with fail
    go_loopw [9] (fun i wr => ∃ k : Nat, k ≤ s.size ∧ i = .int .i64 (k : Nat) ∧ (∀ (j : Nat) (hj : j < s.size), j < k → badP s[j] = false) ∧ wr = w) (fun i _ => s.size - (intOf i).toNat)
    case atStart => exact ⟨0, Nat.zero_le _, rfl, fun j hj h => by omega, rfl⟩
    case round =>
      obtain ⟨k, hk, rfl, hno, hwr⟩ := hrel
      have hwr := hwr.symm
      subst hwr
      have HNO : Hid (∀ (j : Nat) (hj : j < s.size), j < k → badP s[j] = false) := hno
      clear hno
      by_cases hlt : k < s.size
      · have HF : Hid _ := HFO.out s[k] w
        cases hb : badP s[k] with
        | true =>
          have HN : Hid (res = none) := by
            show _ = _
            rw [HRES.out]
            exact if_pos (any_badP s k hlt hb)
          rw [hb] at HF
          clear hb
          go_wp2_with fail
          refine Calls.mono HF.out ?_
          rintro e W0 ⟨rfl, hw0⟩
          have hw0 := hw0.symm
          subst hw0
          go_wp2
          go_ret2
          rw [HN.out]
          exact ⟨⟨_, rfl⟩, Below.refl _ _⟩
        | false =>
          have HNX : Hid (∀ (j : Nat) (hj : j < s.size), j < k + 1 → badP s[j] = false) := by
            intro j hj h
            by_cases e : j = k
            · subst e; exact hb
            · exact HNO.out j hj (by omega)
          rw [hb] at HF
          clear hb
          go_wp2_with fail
          refine Calls.mono HF.out ?_
          rintro e W0 ⟨rfl, hw0⟩
          have hw0 := hw0.symm
          subst hw0
          go_wp2
          go_roundw
          case rel => exact ⟨k + 1, by omega, by go_num, HNX.out, trivial⟩
          case measure => (simp [intOf]; try omega)
      · have HRS : Hid (res = some (esc 0 s.data.toList)) := by
          show _ = _
          rw [HRES.out]
          unfold hostPlain
          rw [if_neg]
          rw [any_goodP s (fun j hj => HNO.out j hj (by omega))]
          simp
        go_wp2_with fail
        refine Calls.mono HES.out ?_
        rintro e w1 ⟨rfl, b1⟩
        have HB1 : Hid (Below w.heap.size w w1) := b1
        clear b1
        go_wp2
        go_ret2
        rw [HRS.out]
        exact ⟨rfl, HB1.out⟩

theorem any_badS (s : ByteArray) (k : Nat) (h : k < s.size) (hb : badS s[k] = true) : s.data.toList.any badS = true := by
  rw [List.any_eq_true]
  exact ⟨s[k], List.mem_of_getElem? (i := k) (by rw [Array.getElem?_toList]; exact Array.getElem?_eq_getElem h), hb⟩
theorem any_goodS (s : ByteArray) (h : ∀ (j : Nat) (hj : j < s.size), badS s[j] = false) : s.data.toList.any badS = false := by
  rw [List.any_eq_false]
  intro x hx
  rw [List.mem_iff_getElem?] at hx
  obtain ⟨j, hj⟩ := hx
  rw [Array.getElem?_toList, Array.getElem?_eq_some_iff] at hj
  obtain ⟨h1, h2⟩ := hj
  have h3 := h j h1
  rw [← h2]
  intro h4
  have h5 : badS s[j] = true := h4
  rw [h3] at h5
  cases h5
/-- Of a byte that is bad, which test says so. -/
theorem badS_ways (c : UInt8) (h : badS c = true) : badP c = true ∨ (badP c = false ∧ (c.toNat : Int) < 32) ∨ (badP c = false ∧ ¬ (c.toNat : Int) < 32 ∧ ((c.toNat : Int) == 37) = true) ∨ (badP c = false ∧ ¬ (c.toNat : Int) < 32 ∧ ((c.toNat : Int) == 37) = false ∧ (126 : Int) < (c.toNat : Int)) := by
  rw [badS_is] at h
  cases hb : badP c with
  | true => exact Or.inl rfl
  | false =>
    rw [hb] at h
    simp at h
    by_cases h1 : c.toNat < 32
    · exact Or.inr (Or.inl ⟨rfl, by omega⟩)
    · by_cases h2 : c.toNat = 37
      · exact Or.inr (Or.inr (Or.inl ⟨rfl, by omega, by rw [h2]; rfl⟩))
      · exact Or.inr (Or.inr (Or.inr ⟨rfl, by omega, by rw [beq_eq_false_iff_ne]; omega, by omega⟩))
theorem goodS_ways (c : UInt8) (h : badS c = false) : badP c = false ∧ ¬ (c.toNat : Int) < 32 ∧ ((c.toNat : Int) == 37) = false ∧ ¬ (126 : Int) < (c.toNat : Int) := by
  rw [badS_is] at h
  simp at h
  obtain ⟨h1, h2, h3, h4⟩ := h
  exact ⟨h1, by omega, by rw [beq_eq_false_iff_ne]; omega, by omega⟩
theorem lower_len (u : Bs) : (Lib.toLowerA u).length = u.length := by unfold Lib.toLowerA; exact List.length_map ..
theorem labels_nil : labels [] = [[]] := by decide
end Go.Proofs
/-
  What Host of package moorref answers where the scheme is special; what it answers of any text.
-/
namespace Go.Proofs
open Go.RowKit Go.Moor

theorem last_at {α : Type} (ls : List α) (h : ls ≠ []) (d : α) : ls[ls.length - 1]? = some (ls.getLastD d) := by
  rw [← List.getLast?_eq_getElem?, List.getLastD_eq_getLast?]
  cases hl : ls.getLast? with
  | none => exact absurd (List.getLast?_eq_none_iff.1 hl) h
  | some x => rfl

set_option maxHeartbeats 16000000 in
set_option maxRecDepth 8000 in
theorem Tryz.rhost_special (s : ByteArray) (w : World) (hs : s.size ≤ 2000) (hpf : Lib.hasPrefix s.data.toList [91] = false) :
    Calls Tryz.prog 67 #[.string s, .bool true] w fun e w' => RHostRes (hostSpecial (unesc s.data.toList)) e ∧ Below w.heap.size w w' := by
  have HUN : Hid (Calls Tryz.prog 42 #[.string s] w fun e w' => e = .returned (.string ⟨(unesc s.data.toList).toArray⟩) ∧ Below w.heap.size w w') := Tryz.rUnescape_any s w (by omega)
  have HFO : Hid (∀ (c : UInt8) w1, Calls Tryz.prog 110 #[.string ⟨#[0, 9, 10, 13, 32, 35, 47, 58, 60, 62, 63, 64, 91, 92, 93, 94, 124]⟩, .int .u8 c.toNat] w1 fun e w' => e = .returned (.bool (badP c)) ∧ w' = w1) := fun c w1 => Tryz.rforb_any c w1
  have hul : (unesc s.data.toList).length ≤ 2000 := by
    have := unesc_len s.data.toList.length s.data.toList (Nat.le_refl _)
    rw [Array.length_toList] at this
    exact Nat.le_trans this hs
  have hbr := no_bracket s hpf
  clear hpf
  generalize unesc s.data.toList = u at *
  obtain ⟨ub, hub⟩ : ∃ ub : ByteArray, ub = ⟨u.toArray⟩ := ⟨_, rfl⟩
  rw [← hub] at HUN
  have hus : ub.size ≤ 2000 := by rw [hub, size_mk]; exact hul
  have HUD : Hid (ub.data.toList = u) := by show _ = _; rw [hub]
  clear hub
  obtain ⟨L, hL⟩ : ∃ L, L = Lib.toLowerA u := ⟨_, rfl⟩
  have hLl : L.length ≤ 2000 := by rw [hL, lower_len]; exact hul
  obtain ⟨lb, hlb⟩ : ∃ lb : ByteArray, lb = ⟨L.toArray⟩ := ⟨_, rfl⟩
  have HSM : Hid (∀ w1, Calls Tryz.prog 118 #[.string ub] w1 fun e w' => e = .returned (.string lb) ∧ Below w1.heap.size w1 w') := by
    intro w1
    have := Tryz.rsmall_any ub w1 (by omega)
    rw [HUD.out, ← hL, ← hlb] at this
    exact this
  have hlz : lb.size ≤ 2000 := by rw [hlb, size_mk]; exact hLl
  have HLD : Hid (lb.data.toList = L) := by show _ = _; rw [hlb]
  have HSP : Hid (∀ w1, Calls Tryz.prog 78 #[.string lb, .int .u8 46] w1 fun e w' => (∃ v, e = .returned v ∧ w'.ownsRow w1.heap.size 9 1 v (splitOn 46 L).length (strs (splitOn 46 L))) ∧ Below w1.heap.size w1 w') := by
    intro w1
    have := Tryz.rsplit_any lb 46 w1 (by omega)
    rw [HLD.out] at this
    exact this
  have HLE : Hid (lb.toList.isEmpty = L.isEmpty) := by show _ = _; rw [hlb, Lib.toList_data]
  have HLB : Hid (lb = ⟨L.toArray⟩) := hlb
  have HLU : Hid (L = Lib.toLowerA u) := hL
  have HLL : Hid (L.length ≤ 2000) := hLl
  clear hL hlb hul hLl
  suffices key : ∀ res : Option Bs, Hid (res = hostSpecial u) → Calls Tryz.prog 67 #[.string s, .bool true] w fun e w' => RHostRes res e ∧ Below w.heap.size w w' from key _ rfl
  intro res HRES
  obtain ⟨br, hbrk⟩ : ∃ br : Bool, br = false := ⟨_, rfl⟩
  go_enter Tryz.func67, Tryz.ntmps67
  go_upto_region 1 with fail
  go_cut [22] from 15 to 22 (fun b wx => b = .bool br ∧ wx = w)
  case first =>
    rcases hbr with h0 | ⟨h0, h1, h2⟩
    all_goals
      go_wp2
      go_meet
      exact ⟨by rw [hbrk], rfl⟩
  case rest =>
  obtain ⟨rfl, hwc⟩ := hcut
  have hwc := hwc.symm
  subst hwc
  subst hbrk
  clear hbr
  go_wp2_with fail
  refine Calls.mono HUN.out ?_
  rintro e V ⟨rfl, b1⟩
  have HB : Hid (Below w.heap.size w V) := b1
  have hbz := b1.size
  clear b1 HUN
  go_wp2_with fail
  go_loopw [11] (fun i wr => ∃ k : Nat, k ≤ ub.size ∧ i = .int .i64 (k : Nat) ∧ (∀ (j : Nat) (hj : j < ub.size), j < k → badS ub[j] = false) ∧ wr = V) (fun i _ => ub.size - (intOf i).toNat)
  case atStart => exact ⟨0, Nat.zero_le _, rfl, fun j hj h => by omega, rfl⟩
  case round =>
    obtain ⟨k, hk, rfl, hno, hwr⟩ := hrel
    have hwr := hwr.symm
    subst hwr
    have HNO : Hid (∀ (j : Nat) (hj : j < ub.size), j < k → badS ub[j] = false) := hno
    clear hno
    by_cases hlt : k < ub.size
    · have HF : Hid _ := HFO.out ub[k] V
      cases hb : badS ub[k] with
      | true =>
        have HN : Hid (res = none) := by
          show _ = _
          rw [HRES.out]
          have := any_badS ub k hlt hb
          rw [HUD.out] at this
          unfold hostSpecial
          rw [this]
          simp
        rcases badS_ways _ hb with h1 | ⟨h1, h2⟩ | ⟨h1, h2, h3⟩ | ⟨h1, h2, h3, h4⟩
        all_goals
          rw [h1] at HF
          clear hb
          go_wp2_with fail
          refine Calls.mono HF.out ?_
          rintro e W0 ⟨rfl, hw0⟩
          have hw0 := hw0.symm
          subst hw0
          go_wp2
          go_ret2
          rw [HN.out]
          exact ⟨⟨_, rfl⟩, HB.out⟩
      | false =>
        have HNX : Hid (∀ (j : Nat) (hj : j < ub.size), j < k + 1 → badS ub[j] = false) := by
          intro j hj h
          by_cases e : j = k
          · subst e; exact hb
          · exact HNO.out j hj (by omega)
        obtain ⟨h1, h2, h3, h4⟩ := goodS_ways _ hb
        rw [h1] at HF
        clear hb
        go_wp2_with fail
        refine Calls.mono HF.out ?_
        rintro e W0 ⟨rfl, hw0⟩
        have hw0 := hw0.symm
        subst hw0
        go_wp2
        go_roundw
        case rel => exact ⟨k + 1, by omega, by go_num, HNX.out, trivial⟩
        case measure => (simp [intOf]; try omega)
    · have HGS : Hid (u.any badS = false) := by
        have := any_goodS ub (fun j hj => HNO.out j hj (by omega))
        rw [HUD.out] at this
        exact this
      clear HNO HFO
      go_wp2_with fail
      refine Calls.mono (HSM.out V) ?_
      rintro e V1 ⟨rfl, b1⟩
      have HB1 : Hid (Below w.heap.size w V1) := HB.out.trans (b1.mono hbz)
      clear b1 HSM
      go_wp2_with fail
      refine Calls.mono (HSP.out V1) ?_
      rintro e V2 ⟨⟨v, rfl, ho⟩, b2⟩
      have HB2 : Hid (Below w.heap.size w V2) := HB1.out.trans (b2.mono HB1.out.size)
      obtain ⟨ls, hls⟩ : ∃ ls, ls = splitOn 46 L := ⟨_, rfl⟩
      rw [← hls] at ho
      have hne : ls ≠ [] := by rw [hls]; exact splitOn_ne 46 L
      have hpos : 0 < ls.length := List.length_pos_iff.2 hne
      obtain ⟨spv, cap, rfl, hnc, hcm, hrow⟩ := own_shape ho
      obtain ⟨g, hg, hcl⟩ := hrow hpos
      subst hg
      have hgl : g < V2.heap.size := (ho.lt g rfl).2
      have hlc : ls.length ≤ 2001 := by
        rw [hls]
        have := splitOn_count 46 L
        have := HLL.out
        omega
      have HCL : Hid (∀ (j : Nat) x, ls[j]? = some x → V2.cell? ⟨g, j, none⟩ = some (.string ⟨x.toArray⟩)) := fun j x hj => hcl j _ (by unfold strs; rw [List.getElem?_map, hj]; rfl)
      have HLS : Hid (ls = splitOn 46 L) := hls
      have HLM : Hid (∀ x ∈ ls, x.length ≤ 4000) := by
        intro x hx
        rw [HLS.out] at hx
        have := splitOn_mem 46 L x hx
        have := HLL.out
        omega
      have HGT : Hid (g < V2.heap.size) := hgl
      have HNE : Hid (ls ≠ []) := hne
      clear b2 ho hcl hls hrow hgl HSP
      obtain ⟨z, hz⟩ : ∃ z, z = ls.getLastD [] := ⟨_, rfl⟩
      have HLA : Hid (ls[ls.length - 1]? = some z) := by show _ = _; rw [hz]; exact last_at ls hne []
      obtain ⟨n, hn⟩ : ∃ n, ls.length = n + 1 := ⟨ls.length - 1, by omega⟩
      have cz : V2.cell? ⟨g, n, none⟩ = some (.string ⟨z.toArray⟩) := by
        have h := HLA.out
        rw [show ls.length - 1 = n by omega] at h
        exact HCL.out n z h
      have hLG : ls.getLast? = some z := by
        have := HLA.out
        rw [← List.getLast?_eq_getElem?] at this
        exact this
      obtain ⟨dr, hdr⟩ : ∃ dr : Bool, dr = (decide (1 < ls.length) && z.isEmpty) := ⟨_, rfl⟩
      have HLAB : Hid (labels L = if dr then ls.dropLast else ls) := by
        show _ = _
        unfold labels
        rw [← HLS.out, hLG]
        have e : (1 < ls.length ∧ some z = some ([] : List UInt8)) ↔ dr = true := by
          rw [hdr, Bool.and_eq_true, decide_eq_true_eq, List.isEmpty_iff]
          simp
        by_cases hd : dr = true
        · rw [if_pos (e.2 hd), if_pos hd]
        · rw [if_neg (fun h => hd (e.1 h)), if_neg hd]
      have hze : (⟨z.toArray⟩ : ByteArray).toList.isEmpty = z.isEmpty := by rw [Lib.toList_data]
      obtain ⟨zb, hzb⟩ : ∃ zb : ByteArray, zb = ⟨z.toArray⟩ := ⟨_, rfl⟩
      rw [← hzb] at cz hze
      have HDRH : Hid (dr = (decide (1 < ls.length) && z.isEmpty)) := hdr
      have HZE : Hid (zb.toList.isEmpty = z.isEmpty) := hze
      have hli : (ls.length : Int) - 1 = (n : Int) := by omega
      have hnl : n < ls.length := by omega
      have HNN : Hid (ls.length = n + 1) := hn
      clear hLG hdr hze hzb hz hne hn HLA
      go_upto_region 28 with fail
      go_cut [109] from 98 to 130 (fun b wx => b = .bool dr ∧ wx = V2)
      case first =>
        by_cases h1 : 1 < ls.length
        · have h1i : (1 : Int) < (ls.length : Int) := by omega
          have HD : Hid (dr = z.isEmpty) := by
            show _ = _
            rw [HDRH.out, decide_eq_true h1]
            rfl
          cases hzz : z.isEmpty
          all_goals
            have hz2 := HZE.out
            rw [hzz] at hz2 HD
            go_wp2
            go_meet
            exact ⟨by rw [HD.out], rfl⟩
        · have h1i : ¬ (1 : Int) < (ls.length : Int) := by omega
          have HD : Hid (dr = false) := by
            show _ = _
            rw [HDRH.out, decide_eq_false h1]
            rfl
          go_wp2
          go_meet
          exact ⟨by rw [HD.out], rfl⟩
      case rest =>
      obtain ⟨rfl, hwc⟩ := hcut
      have hwc := hwc.symm
      subst hwc
      go_upto_if 109 with fail
      go_cut [13] from 98 to 130 (fun a wx => ∃ cap2, a = .slice (some ⟨g, 0, none⟩) (labels L).length cap2 ∧ (labels L).length ≤ cap2 ∧ wx = V2)
      case first =>
        cases dr with
        | true =>
          have HLN : Hid ((labels L).length = n) := by
            show _ = _
            rw [HLAB.out, if_pos rfl, List.length_dropLast, HNN.out]
            rfl
          have hn0 : (0 : Int) ≤ (n : Int) := by omega
          have hnc2 : (n : Int) ≤ (cap : Int) := by omega
          go_wp2
          go_meet
          exact ⟨cap, by rw [HLN.out], by rw [HLN.out]; omega, rfl⟩
        | false =>
          have HLN : Hid ((labels L).length = ls.length) := by
            show _ = _
            rw [HLAB.out, if_neg (by simp)]
          go_wp2
          go_meet
          exact ⟨cap, by rw [HLN.out], by rw [HLN.out]; omega, rfl⟩
      case rest =>
      obtain ⟨cap2, rfl, hcap2, hwc⟩ := hcut
      have hwc := hwc.symm
      subst hwc
      have HCB : Hid (∀ (j : Nat) x, (labels L)[j]? = some x → V2.cell? ⟨g, j, none⟩ = some (.string ⟨x.toArray⟩)) := by
        intro j x hj
        rw [HLAB.out] at hj
        split at hj
        · refine HCL.out j x ?_
          rw [List.getElem?_dropLast] at hj
          split at hj
          · exact hj
          · cases hj
        · exact HCL.out j x hj
      have HLBM : Hid (∀ x ∈ labels L, x.length ≤ 4000) := by
        intro x hx
        have := labels_mem L x hx
        have := HLL.out
        omega
      have hbl : (labels L).length ≤ 2001 := by
        rw [HLAB.out]
        split
        · rw [List.length_dropLast]; omega
        · exact hlc
      have hbne := labels_ne L
      have HBNE : Hid (labels L ≠ []) := hbne
      have hbpos : 0 < (labels L).length := List.length_pos_iff.2 hbne
      have HSPEC : Hid (u ≠ [] → res = if numLabel ((labels L).getLastD []) then (ip4 (labels L)).map (fun a => tell4 a.toNat) else some L) := by
        intro hu
        rw [HRES.out]
        unfold hostSpecial
        rw [if_neg hu, HGS.out, if_neg (by simp), ← HLU.out]
      have HNIL : Hid (u = [] → res = none ∧ numLabel ((labels L).getLastD []) = false ∧ L = []) := by
        intro hu
        have hL0 : L = [] := by rw [HLU.out, hu]; rfl
        refine ⟨?_, ?_, hL0⟩
        · rw [HRES.out]; unfold hostSpecial; rw [if_pos hu]
        · rw [hL0, labels_nil]; decide
      have HLNIL : Hid (L = [] → u = []) := by
        intro h
        have h2 := HLU.out
        rw [h] at h2
        have h3 := congrArg List.length h2
        rw [lower_len] at h3
        exact List.length_eq_zero_iff.1 h3.symm
      generalize labels L = bs at *
      clear hbne HLAB HDRH HNE HCL HLM HZE cz hli hnl HNN HLS hnc hcm hlc
      obtain ⟨z2, hz2⟩ : ∃ z2, z2 = bs.getLastD [] := ⟨_, rfl⟩
      obtain ⟨n2, hn2⟩ : ∃ n2, bs.length = n2 + 1 := ⟨bs.length - 1, by omega⟩
      have hla2 := last_at bs HBNE.out ([] : List UInt8)
      rw [← hz2, show bs.length - 1 = n2 by omega] at hla2
      have cz2 := HCB.out n2 z2 hla2
      have hz2m := HLBM.out z2 (List.mem_of_getElem? hla2)
      obtain ⟨zb2, hzb2⟩ : ∃ zb2 : ByteArray, zb2 = ⟨z2.toArray⟩ := ⟨_, rfl⟩
      rw [← hzb2] at cz2
      rw [← hz2] at HSPEC HNIL
      have HNU : Hid (Calls Tryz.prog 119 #[.string zb2] V2 fun e w' => e = .returned (.bool (numLabel z2)) ∧ w' = V2) := by
        have := Tryz.rnumeric_any zb2 V2 (by rw [hzb2, size_mk]; omega)
        rw [hzb2] at this ⊢
        exact this
      have HFR : Hid (Calls Tryz.prog 120 #[.slice (some ⟨g, 0, none⟩) bs.length cap2] V2 fun e w' => FourRes (ip4 bs) e ∧ Below V2.heap.size V2 w') := Tryz.rfour_any bs _ cap2 V2 HBNE.out (by omega) HLBM.out ⟨g, rfl, HGT.out, HCB.out⟩
      have hli2 : (bs.length : Int) - 1 = (n2 : Int) := by omega
      have hnl2 : n2 < bs.length := by omega
      clear hz2 hn2 hla2 hz2m hzb2 HCB HLBM
      go_wp2_with fail
      refine Calls.mono HNU.out ?_
      rintro e W0 ⟨rfl, hw0⟩
      have hw0 := hw0.symm
      subst hw0
      cases hnum : numLabel z2 with
      | false =>
        rw [hnum] at HSPEC
        have HLE2 : Hid _ := HLE.out
        by_cases hL0 : L = []
        · have HN : Hid (res = none) := (HNIL.out (HLNIL.out hL0)).1
          have hle : lb.toList.isEmpty = true := by rw [HLE.out, hL0]; rfl
          clear hL0 hnum
          go_wp2
          go_ret2
          rw [HN.out]
          exact ⟨⟨_, rfl⟩, HB2.out⟩
        · have HN : Hid (res = some L) := by
            show _ = _
            rw [HSPEC.out (fun h => hL0 (HNIL.out h).2.2)]
            rfl
          have hle : lb.toList.isEmpty = false := by
            rw [HLE.out]
            cases L with
            | nil => exact absurd rfl hL0
            | cons => rfl
          clear hL0 hnum
          go_wp2
          go_ret2
          rw [HN.out]
          refine ⟨?_, HB2.out⟩
          show _ = Ending.returned (.tuple #[.string ⟨L.toArray⟩, .bool true])
          rw [← HLB.out]
          rfl
      | true =>
        have hu : u ≠ [] := fun h => by
          have := (HNIL.out h).2.1
          rw [hnum] at this
          cases this
        have HN : Hid (res = (ip4 bs).map (fun a => tell4 a.toNat)) := by
          show _ = _
          rw [HSPEC.out hu, hnum]
          rfl
        clear hnum hu
        go_wp2_with fail
        refine Calls.mono HFR.out ?_
        rintro e V3 ⟨hf, b3⟩
        have HB3 : Hid (Below w.heap.size w V3) := HB2.out.trans (b3.mono HB2.out.size)
        clear b3
        cases ho : ip4 bs with
        | none =>
          rw [ho] at hf HN
          have hf : e = _ := hf
          subst hf
          clear ho
          go_wp2
          go_ret2
          rw [HN.out]
          exact ⟨⟨_, rfl⟩, HB3.out⟩
        | some a =>
          rw [ho] at hf HN
          have hf : e = _ := hf
          subst hf
          clear ho
          go_wp2
          go_ret2
          rw [HN.out]
          exact ⟨rfl, HB3.out⟩

theorem Tryz.rHost_any (s : ByteArray) (sp : Bool) (w : World) (hs : s.size ≤ 2000) :
    Calls Tryz.prog 67 #[.string s, .bool sp] w fun e w' => RHostRes (hostTell s.data.toList sp) e ∧ Below w.heap.size w w' := by
  unfold hostTell
  by_cases hp : Lib.hasPrefix s.data.toList [91] = true
  · rw [if_pos hp]
    exact Tryz.rhost_six s sp w hs hp
  · have hp2 : Lib.hasPrefix s.data.toList [91] = false := by simpa using hp
    rw [if_neg hp]
    cases sp with
    | true => exact Tryz.rhost_special s w hs hp2
    | false => exact Tryz.rhost_plain s w hs hp2
end Go.Proofs
/-
  The law's single steps: host, a step of the kinds up to Host, looks at no list.
-/
namespace Go.Proofs
open Go.RowKit Go.Moor

set_option maxHeartbeats 4000000 in
set_option maxRecDepth 4000 in
theorem Tryz.lhost_any (s : ByteArray) (sp : Bool) (w : World) (hs : s.size ≤ 2097152) (henv : Tryz.Env w) (htz : Tryz.Tz w) :
    Calls Tryz.prog 43 #[.string s, .bool sp] w fun e w' => e = .returned (.bool true) ∧ Below w.heap.size w w' := by
  by_cases hl : 2000 < s.size
  · have HH : Hid (Calls Tryz.prog 18 #[.string s, .bool sp] w fun e w' => e = .returned (.tuple #[.string ⟨#[]⟩, .int .i64 1]) ∧ w' = w) := Tryz.Host_long s sp w hl (by unfold maxLen; omega)
    have hli : (2000 : Int) < (s.size : Int) := by omega
    clear henv htz
    go_enter Tryz.func43, Tryz.ntmps43
    go_wp2_with fail
    refine Calls.mono HH.out ?_
    rintro e W0 ⟨rfl, hw0⟩
    have hw0 := hw0.symm
    subst hw0
    go_wp2
    go_ret
    exact ⟨rfl, Below.refl _ _⟩
  · have HH : Hid (Calls Tryz.prog 18 #[.string s, .bool sp] w fun e w' => e = HostRes (hostTell s.data.toList sp) ∧ Below w.heap.size w w') := Tryz.Host_any s sp w (by omega) henv htz
    have HR : Hid (∀ w1, Calls Tryz.prog 67 #[.string s, .bool sp] w1 fun e w' => RHostRes (hostTell s.data.toList sp) e ∧ Below w1.heap.size w1 w') := fun w1 => Tryz.rHost_any s sp w1 (by omega)
    have hli : ¬ (2000 : Int) < (s.size : Int) := by omega
    clear henv htz hl
    cases ho : hostTell s.data.toList sp with
    | none =>
      rw [ho] at HH HR
      clear ho
      go_enter Tryz.func43, Tryz.ntmps43
      go_wp2_with fail
      refine Calls.mono HH.out ?_
      rintro e w1 ⟨he, b1⟩
      have he : e = .returned (.tuple #[.string ⟨#[]⟩, .int .i64 4]) := he
      subst he
      have HB1 : Hid (Below w.heap.size w w1) := b1
      clear b1
      go_wp2_with fail
      refine Calls.mono (HR.out w1) ?_
      rintro e w2 ⟨⟨x, rfl⟩, b2⟩
      have HB2 : Hid (Below w.heap.size w w2) := HB1.out.trans (b2.mono HB1.out.size)
      clear b2
      go_wp2
      go_ret
      exact ⟨rfl, HB2.out⟩
    | some t =>
      rw [ho] at HH HR
      clear ho
      obtain ⟨tb, htb⟩ : ∃ tb : ByteArray, tb = ⟨t.toArray⟩ := ⟨_, rfl⟩
      have hself : (tb.toList == tb.toList) = true := by simp
      have HTB : Hid (tb = ⟨t.toArray⟩) := htb
      clear htb
      go_enter Tryz.func43, Tryz.ntmps43
      go_wp2_with fail
      refine Calls.mono HH.out ?_
      rintro e w1 ⟨he, b1⟩
      have he : e = .returned (.tuple #[.string ⟨t.toArray⟩, .int .i64 0]) := he
      rw [← HTB.out] at he
      subst he
      have HB1 : Hid (Below w.heap.size w w1) := b1
      clear b1
      go_wp2_with fail
      refine Calls.mono (HR.out w1) ?_
      rintro e w2 ⟨he, b2⟩
      have he : e = .returned (.tuple #[.string ⟨t.toArray⟩, .bool true]) := he
      rw [← HTB.out] at he
      subst he
      have HB2 : Hid (Below w.heap.size w w2) := HB1.out.trans (b2.mono HB1.out.size)
      clear b2
      go_wp2
      go_ret
      exact ⟨rfl, HB2.out⟩

/-- The variables' values that a step of the law wants. -/
theorem Tryz.tz_below {w w' : World} (h : Tryz.Tz w) (hb : Below w.heap.size w w') (hz : 29 ≤ w.heap.size) : Tryz.Tz w' := by
  first | exact h.below hb hz | exact h.below hb

set_option maxHeartbeats 8000000 in
set_option maxRecDepth 8000 in
theorem Tryz.step_hosts (b : Value) (kind n : Int) (flag : Bool) (S T : ByteArray) (lv : Value) (w : World) (hk : kind ≤ 3) (hS : S.size ≤ 2097152) (henv : Tryz.Env w) (htz : Tryz.Tz w) :
    Calls Tryz.prog 29 #[b, .agg #[.int .i64 kind, .int .i64 n, .bool flag, .string S, .string T, lv]] w fun e w' => e = .returned (.bool true) ∧ Below w.heap.size w w' := by
  obtain ⟨W, hW⟩ : ∃ W, W = w.alloc (.cells #[.int .i64 kind, .int .i64 n, .bool flag, .string S, .string T, lv] 60) := ⟨_, rfl⟩
  have hBW : Below w.heap.size w W := by rw [hW]; exact (Below.refl _ _).alloc (Nat.le_refl _) _
  have HBW : Hid (∀ w1, Below W.heap.size W w1 → Below w.heap.size w w1) := fun w1 b1 => hBW.trans (b1.mono hBW.size)
  have hEW : Tryz.Env W := henv.below hBW
  have hTW : Tryz.Tz W := Tryz.tz_below htz hBW henv.size
  have hz : W.heap[w.heap.size]? = some (.cells #[.int .i64 kind, .int .i64 n, .bool flag, .string S, .string T, lv] 60 (0, 0)) := by rw [hW]; exact heap_alloc_new w _
  have hzs : w.heap.size < W.heap.size := (Array.getElem?_eq_some_iff.1 hz).1
  have HC : Hid (∀ w1, Below W.heap.size W w1 → w1.cell? ⟨w.heap.size, 0, none⟩ = some (.int .i64 kind) ∧ w1.cell? ⟨w.heap.size, 1, none⟩ = some (.int .i64 n) ∧ w1.cell? ⟨w.heap.size, 2, none⟩ = some (.bool flag) ∧ w1.cell? ⟨w.heap.size, 3, none⟩ = some (.string S)) := by
    intro w1 b1
    have k := (b1.block w.heap.size hzs).trans hz
    unfold World.cell?
    simp [k]
  have HZ : Hid (W = w.alloc (.cells #[.int .i64 kind, .int .i64 n, .bool flag, .string S, .string T, lv] 60)) := hW
  have HE1 : Hid (∀ w1, Below W.heap.size W w1 → Calls Tryz.prog 39 #[.string S, .int .i64 n] w1 fun e w' => e = .returned (.string ⟨(esc n S.data.toList).toArray⟩) ∧ Below w1.heap.size w1 w') := fun w1 b1 => Tryz.escape_any S n w1 (by omega) (hEW.below b1).sets (by have := (hEW.below b1).size; omega)
  have HE2 : Hid (∀ w1, Calls Tryz.prog 40 #[.string S, .int .i64 n] w1 fun e w' => e = .returned (.string ⟨(esc n S.data.toList).toArray⟩) ∧ Below w1.heap.size w1 w') := fun w1 => Tryz.rEscape_any S n w1 (by omega)
  have HU1 : Hid (∀ w1, Below W.heap.size W w1 → Calls Tryz.prog 41 #[.string S] w1 fun e w' => e = .returned (.string ⟨(unesc S.data.toList).toArray⟩) ∧ Below w1.heap.size w1 w') := fun w1 b1 => by
    obtain ⟨m, hm⟩ := (hEW.below b1).maxLen
    exact Tryz.unescape_any S m w1 (by omega) hm (by have := (hEW.below b1).size; omega)
  have HU2 : Hid (∀ w1, Calls Tryz.prog 42 #[.string S] w1 fun e w' => e = .returned (.string ⟨(unesc S.data.toList).toArray⟩) ∧ Below w1.heap.size w1 w') := fun w1 => Tryz.rUnescape_any S w1 (by omega)
  have HH1 : Hid (Calls Tryz.prog 43 #[.string S, .bool flag] W fun e w' => e = .returned (.bool true) ∧ Below W.heap.size W w') := Tryz.lhost_any S flag W hS hEW hTW
  clear hEW hTW hBW hz hzs henv htz hS
  have hWr : Hid (Below W.heap.size W W) := Below.refl _ _
  obtain ⟨c0, c1, c2, c3⟩ := HC.out W hWr.out
  by_cases h1 : kind = 1
  · subst h1
    obtain ⟨tb, htb⟩ : ∃ tb : ByteArray, tb = ⟨(esc n S.data.toList).toArray⟩ := ⟨_, rfl⟩
    rw [← htb] at HE1 HE2
    have hself : (tb.toList == tb.toList) = true := by simp
    clear htb hW
    go_enter Tryz.func29, Tryz.ntmps29
    go_upto_region 1 with fail
    rw [← HZ.out]
    go_wp2_with fail
    refine Calls.mono (HE1.out W hWr.out) ?_
    rintro e w1 ⟨rfl, b1⟩
    have HB1 : Hid (Below W.heap.size W w1) := b1
    obtain ⟨d0, d1, d2, d3⟩ := HC.out w1 b1
    clear b1 c0 c1 c2 c3
    go_wp2_with fail
    refine Calls.mono (HE2.out w1) ?_
    rintro e w2 ⟨rfl, b2⟩
    have HB2 : Hid (Below W.heap.size W w2) := HB1.out.trans (b2.mono HB1.out.size)
    clear b2
    go_wp2
    go_ret
    exact ⟨rfl, HBW.out _ HB2.out⟩
  have e1 : (kind == 1) = false := by rw [beq_eq_false_iff_ne]; exact h1
  by_cases h2 : kind = 2
  · subst h2
    obtain ⟨tb, htb⟩ : ∃ tb : ByteArray, tb = ⟨(unesc S.data.toList).toArray⟩ := ⟨_, rfl⟩
    rw [← htb] at HU1 HU2
    have hself : (tb.toList == tb.toList) = true := by simp
    clear htb hW
    go_enter Tryz.func29, Tryz.ntmps29
    go_upto_region 1 with fail
    rw [← HZ.out]
    go_wp2_with fail
    refine Calls.mono (HU1.out W hWr.out) ?_
    rintro e w1 ⟨rfl, b1⟩
    have HB1 : Hid (Below W.heap.size W w1) := b1
    obtain ⟨d0, d1, d2, d3⟩ := HC.out w1 b1
    clear b1 c0 c1 c2 c3
    go_wp2_with fail
    refine Calls.mono (HU2.out w1) ?_
    rintro e w2 ⟨rfl, b2⟩
    have HB2 : Hid (Below W.heap.size W w2) := HB1.out.trans (b2.mono HB1.out.size)
    clear b2
    go_wp2
    go_ret
    exact ⟨rfl, HBW.out _ HB2.out⟩
  have e2 : (kind == 2) = false := by rw [beq_eq_false_iff_ne]; exact h2
  by_cases h3 : kind = 3
  · subst h3
    clear hW
    go_enter Tryz.func29, Tryz.ntmps29
    go_upto_region 1 with fail
    rw [← HZ.out]
    go_wp2_with fail
    refine Calls.mono HH1.out ?_
    rintro e w1 ⟨rfl, b1⟩
    have HB1 : Hid (Below W.heap.size W w1) := b1
    clear b1
    go_wp2
    go_ret
    exact ⟨rfl, HBW.out _ HB1.out⟩
  have e3 : (kind == 3) = false := by rw [beq_eq_false_iff_ne]; exact h3
  have e4 : (kind == 4) = false := by rw [beq_eq_false_iff_ne]; omega
  have e5 : (kind == 5) = false := by rw [beq_eq_false_iff_ne]; omega
  have e6 : (kind == 6) = false := by rw [beq_eq_false_iff_ne]; omega
  have e7 : (kind == 7) = false := by rw [beq_eq_false_iff_ne]; omega
  have e8 : (kind == 8) = false := by rw [beq_eq_false_iff_ne]; omega
  have e9 : (kind == 9) = false := by rw [beq_eq_false_iff_ne]; omega
  clear hW h1 h2 h3 hk
  go_enter Tryz.func29, Tryz.ntmps29
  go_upto_region 1 with fail
  rw [← HZ.out]
  go_wp2
  go_ret
  exact ⟨rfl, HBW.out _ hWr.out⟩

set_option maxHeartbeats 1000000 in
theorem Tryz.looks_none (g : Nat) (w : World) (hc : w.cell? ⟨g, 0, none⟩ = some (.slice none 0 0)) :
    Calls Tryz.prog 30 #[.pointer (some ⟨g, 0, none⟩)] w fun e w' => e = .returned (.bool true) ∧ w' = w := by
  go_enter Tryz.func30, Tryz.ntmps30
  go_wp2_with fail
  go_loopw [3] (fun i wr => i = .int .i64 0 ∧ wr = w) (fun _ _ => 0)
  case atStart => exact ⟨rfl, rfl⟩
  case round =>
    obtain ⟨rfl, hwr⟩ := hrel
    have hwr := hwr.symm
    subst hwr
    go_wp2
    go_ret
    exact ⟨rfl, rfl⟩
end Go.Proofs
/-
  The law Hosts: any script.
-/
namespace Go.Proofs
open Go.RowKit Go.Moor

/-- One step of a script, as it lies in memory. -/
structure OpV where
  kind : Int
  n : Int
  flag : Bool
  S : ByteArray
  T : ByteArray
  lv : Value
instance : Inhabited OpV := ⟨⟨0, 0, false, ⟨#[]⟩, ⟨#[]⟩, .slice none 0 0⟩⟩
/-- A script that can be read. -/
def OpRow (w : World) (sp : Option Go.Addr) (os : List OpV) : Prop := ∀ (j : Nat) o, os[j]? = some o → ∃ g off, sp = some ⟨g, off, none⟩ ∧ g < w.heap.size ∧ w.cell? ⟨g, off + j * 6, none⟩ = some (.int .i64 o.kind) ∧ w.cell? ⟨g, off + j * 6 + 1, none⟩ = some (.int .i64 o.n) ∧ w.cell? ⟨g, off + j * 6 + 2, none⟩ = some (.bool o.flag) ∧ w.cell? ⟨g, off + j * 6 + 3, none⟩ = some (.string o.S) ∧ w.cell? ⟨g, off + j * 6 + 4, none⟩ = some (.string o.T) ∧ w.cell? ⟨g, off + j * 6 + 5, none⟩ = some o.lv
theorem OpRow.below {w w' : World} {sp : Option Go.Addr} {os : List OpV} (h : OpRow w sp os) (hb : Below w.heap.size w w') : OpRow w' sp os := by
  intro j o hj
  obtain ⟨g, off, h1, h2, c0, c1, c2, c3, c4, c5⟩ := h j o hj
  exact ⟨g, off, h1, Nat.lt_of_lt_of_le h2 hb.size, (hb.cell (by exact h2)).trans c0, (hb.cell (by exact h2)).trans c1, (hb.cell (by exact h2)).trans c2, (hb.cell (by exact h2)).trans c3, (hb.cell (by exact h2)).trans c4, (hb.cell (by exact h2)).trans c5⟩

set_option maxHeartbeats 8000000 in
set_option maxRecDepth 8000 in
theorem Tryz.plays_hosts (sp : Option Go.Addr) (cap : Nat) (os : List OpV) (w : World) (hr : OpRow w sp os) (hl : os.length ≤ 2097152) (hS : ∀ o ∈ os, o.S.size ≤ 2097152) (henv : Tryz.Env w) (htz : Tryz.Tz w) :
    Calls Tryz.prog 13 #[.slice sp os.length cap, .int .i64 3] w fun e w' => e = .returned (.bool true) ∧ Below w.heap.size w w' := by
  obtain ⟨W, hW⟩ : ∃ W, W = w.alloc (.cells #[.slice none 0 0] 56) := ⟨_, rfl⟩
  have hBW : Below w.heap.size w W := by rw [hW]; exact (Below.refl _ _).alloc (Nat.le_refl _) _
  have hz : W.heap[w.heap.size]? = some (.cells #[.slice none 0 0] 56 (0, 0)) := by rw [hW]; exact heap_alloc_new w _
  have hzs : w.heap.size < W.heap.size := (Array.getElem?_eq_some_iff.1 hz).1
  have HBW : Hid (∀ w1, Below W.heap.size W w1 → Below w.heap.size w w1) := fun w1 b1 => hBW.trans (b1.mono hBW.size)
  have hEW : Tryz.Env W := henv.below hBW
  have hTW : Tryz.Tz W := Tryz.tz_below htz hBW henv.size
  have HST : Hid (∀ (b : Value) (kind n : Int) (flag : Bool) (S T : ByteArray) (lv : Value) w1, kind ≤ 3 → S.size ≤ 2097152 → Below W.heap.size W w1 → Calls Tryz.prog 29 #[b, .agg #[.int .i64 kind, .int .i64 n, .bool flag, .string S, .string T, lv]] w1 fun e w' => e = .returned (.bool true) ∧ Below w1.heap.size w1 w') :=
    fun b kind n flag S T lv w1 hk hS b1 => Tryz.step_hosts b kind n flag S T lv w1 hk hS (hEW.below b1) (Tryz.tz_below hTW b1 hEW.size)
  have HLO : Hid (∀ w1, Below W.heap.size W w1 → Calls Tryz.prog 30 #[.pointer (some ⟨w.heap.size, 0, none⟩)] w1 fun e w' => e = .returned (.bool true) ∧ w' = w1) := by
    intro w1 b1
    refine Tryz.looks_none w.heap.size w1 ?_
    have k := (b1.block w.heap.size hzs).trans hz
    unfold World.cell?
    simp [k]
  have HRW : Hid (∀ w1, Below W.heap.size W w1 → OpRow w1 sp os) := fun w1 b1 => hr.below (HBW.out w1 b1)
  have HSS : Hid (∀ o ∈ os, o.S.size ≤ 2097152) := hS
  have HZ : Hid (W = w.alloc (.cells #[.slice none 0 0] 56)) := hW
  clear hEW hTW hBW hz hzs henv htz hS hW hr
  go_enter Tryz.func13, Tryz.ntmps13
  go_upto_region 2 with fail
  rw [← HZ.out]
  go_wp2_with fail
  refine Calls.mono (HST.out _ 3 0 true ⟨#[48, 120, 55, 70, 46, 49]⟩ ⟨#[]⟩ (.slice none 0 0) W (by omega) (by decide) (Below.refl _ _)) ?_
  rintro e w1 ⟨rfl, b1⟩
  have HB1 : Hid (Below W.heap.size W w1) := b1
  clear b1
  go_wp2_with fail
  refine Calls.mono (HST.out _ 1 1 false ⟨#[97, 32, 98]⟩ ⟨#[]⟩ (.slice none 0 0) w1 (by omega) (by decide) HB1.out) ?_
  rintro e w2 ⟨rfl, b2⟩
  have HB2 : Hid (Below W.heap.size W w2) := HB1.out.trans (b2.mono HB1.out.size)
  clear b2
  go_wp2_with fail
  go_loopw [8, 9] (fun o i wr => ∃ q : Nat, q ≤ os.length ∧ i = .int .i64 (q : Nat) ∧ o = .bool true ∧ Below W.heap.size W wr) (fun _ i _ => os.length - (intOf i).toNat)
  case atStart => exact ⟨0, Nat.zero_le _, rfl, rfl, HB2.out⟩
  case round =>
    obtain ⟨q, hq, rfl, rfl, hb⟩ := hrel
    have HB : Hid (Below W.heap.size W wr) := hb
    by_cases hlt : q < os.length
    · obtain ⟨o, ho⟩ : ∃ o, os[q]? = some o := ⟨os[q], List.getElem?_eq_getElem hlt⟩
      obtain ⟨g, off, hsp, hg, c0, c1, c2, c3, c4, c5⟩ := HRW.out wr hb q o ho
      subst hsp
      have hSz := HSS.out o (List.mem_of_getElem? ho)
      obtain ⟨kind, n, flag, S, T, lv⟩ := o
      simp only at c0 c1 c2 c3 c4 c5 hSz
      clear ho hb hg
      by_cases hk : kind ≤ 3
      · have hki : ¬ (3 : Int) < kind := by omega
        go_wp2_with fail
        refine Calls.mono (HST.out _ kind n flag S T lv wr hk hSz HB.out) ?_
        rintro e w3 ⟨rfl, b3⟩
        have HB3 : Hid (Below W.heap.size W w3) := HB.out.trans (b3.mono HB.out.size)
        clear b3 c0 c1 c2 c3 c4 c5
        go_wp2_with fail
        refine Calls.mono (HLO.out w3 HB3.out) ?_
        rintro e W0 ⟨rfl, hw0⟩
        have hw0 := hw0.symm
        subst hw0
        go_wp2
        go_roundw
        case rel => exact ⟨q + 1, by omega, by go_num, rfl, HB3.out⟩
        case measure => (simp [intOf]; try omega)
      · have hki : (3 : Int) < kind := by omega
        go_wp2
        go_roundw
        case rel => exact ⟨q + 1, by omega, by go_num, rfl, HB.out⟩
        case measure => (simp [intOf]; try omega)
    · clear hb
      go_wp2
      go_ret
      exact ⟨rfl, HBW.out _ HB.out⟩

set_option maxHeartbeats 1000000 in
theorem Tryz.Hosts_any (sp : Option Go.Addr) (cap : Nat) (os : List OpV) (w : World) (hr : OpRow w sp os) (hl : os.length ≤ 2097152) (hS : ∀ o ∈ os, o.S.size ≤ 2097152) (henv : Tryz.Env w) (htz : Tryz.Tz w) :
    Calls Tryz.prog 3 #[.slice sp os.length cap] w fun e w' => e = .returned (.bool true) ∧ Below w.heap.size w w' := by
  have H : Hid _ := Tryz.plays_hosts sp cap os w hr hl hS henv htz
  clear hr hS henv htz
  go_enter Tryz.func3, Tryz.ntmps3
  go_wp2_with fail
  refine Calls.mono H.out ?_
  rintro e w1 ⟨rfl, b1⟩
  have HB1 : Hid (Below w.heap.size w w1) := b1
  clear b1
  go_wp2
  go_ret
  exact ⟨rfl, HB1.out⟩
end Go.Proofs
/-
  A script that is handed in: its steps, as they lie in memory; how great they are.
-/
namespace Go.Proofs.YtkcnageeamappaaGreatDoor
open Go.ChangeShapes Go.WideShapes Go.ChangeAt Go.RowKit Go.Moor

theorem bulk_one {H : Type} (d : DataW H) : 1 ≤ Rows.uptoBulk d := by
  cases d with
  | lit l => cases l <;> simp [Rows.uptoBulk]
  | _ => simp [Rows.uptoBulk]
theorem bulk_in {H : Type} {d : DataW H} : ∀ {l : List (DataW H)}, d ∈ l → Rows.uptoBulk d ≤ Rows.uptoBulkAll l
  | [], h => by cases h
  | x :: r, h => by
    rw [Rows.uptoBulkAll]
    rcases List.mem_cons.1 h with rfl | h
    · omega
    · have := bulk_in h; omega
theorem bulk_count {H : Type} : ∀ l : List (DataW H), l.length ≤ Rows.uptoBulkAll l
  | [] => Nat.zero_le _
  | x :: r => by
    have h1 := bulk_one x
    have h2 := bulk_count r
    rw [Rows.uptoBulkAll, List.length_cons]
    omega
theorem cellsOp : Tryz.prog.cellsOf 60 = 6 := by kernel_rfl
theorem cells_int : Tryz.prog.cellsOf 3 = 1 := by kernel_rfl
theorem cells_bool : Tryz.prog.cellsOf 4 = 1 := by kernel_rfl
theorem cells_str : Tryz.prog.cellsOf 9 = 1 := by kernel_rfl
theorem cells_pairs : Tryz.prog.cellsOf 58 = 1 := by kernel_rfl

set_option maxRecDepth 100000 in
theorem open_op {H : Type} {enc : TypeId × Value → H} {W : World} {n : Nat} {cs : List Value} {d : DataW H} {pl : List MemPlace}
    (h : DataW.trod enc Tryz.prog W 0 (fun _ => true) true n 60 cs = some (d, pl)) :
    ∃ (o : OpV) (d5 : DataW H) (p5 : List MemPlace) (m : Nat), cs = [.int .i64 o.kind, .int .i64 o.n, .bool o.flag, .string o.S, .string o.T, o.lv] ∧ d = .agg [.lit (.int .i64 o.kind), .lit (.int .i64 o.n), .lit (.bool o.flag), .lit (.string o.S.data.toList), .lit (.string o.T.data.toList), d5] ∧
      DataW.trod enc Tryz.prog W 0 (fun _ => true) true m 58 [o.lv] = some (d5, p5) := by
  obtain ⟨xs, m, _, hx, hl, hlen, hf⟩ := DataW.trod_struct Tryz.underlying60 h
  rw [cellsOp] at hl
  have hlen : xs.length = 6 := hlen
  match cs, hl, xs, hlen with
  | [c0, c1, c2, c3, c4, c5], _, [y0, y1, y2, y3, y4, y5], _ =>
    have f0 : DataW.trod enc Tryz.prog W 0 (fun _ => true) true m 3 [c0] = some y0 := by
      have this : DataW.trod enc Tryz.prog W 0 (fun _ => true) true m 3 (([c0, c1, c2, c3, c4, c5].drop 0).take (Tryz.prog.cellsOf 3)) = some y0 := hf 0 _ rfl
      rw [cells_int] at this
      exact this
    have f1 : DataW.trod enc Tryz.prog W 0 (fun _ => true) true m 3 [c1] = some y1 := by
      have this : DataW.trod enc Tryz.prog W 0 (fun _ => true) true m 3 (([c0, c1, c2, c3, c4, c5].drop 1).take (Tryz.prog.cellsOf 3)) = some y1 := hf 1 _ rfl
      rw [cells_int] at this
      exact this
    have f2 : DataW.trod enc Tryz.prog W 0 (fun _ => true) true m 4 [c2] = some y2 := by
      have this : DataW.trod enc Tryz.prog W 0 (fun _ => true) true m 4 (([c0, c1, c2, c3, c4, c5].drop 2).take (Tryz.prog.cellsOf 4)) = some y2 := hf 2 _ rfl
      rw [cells_bool] at this
      exact this
    have f3 : DataW.trod enc Tryz.prog W 0 (fun _ => true) true m 9 [c3] = some y3 := by
      have this : DataW.trod enc Tryz.prog W 0 (fun _ => true) true m 9 (([c0, c1, c2, c3, c4, c5].drop 3).take (Tryz.prog.cellsOf 9)) = some y3 := hf 3 _ rfl
      rw [cells_str] at this
      exact this
    have f4 : DataW.trod enc Tryz.prog W 0 (fun _ => true) true m 9 [c4] = some y4 := by
      have this : DataW.trod enc Tryz.prog W 0 (fun _ => true) true m 9 (([c0, c1, c2, c3, c4, c5].drop 4).take (Tryz.prog.cellsOf 9)) = some y4 := hf 4 _ rfl
      rw [cells_str] at this
      exact this
    have f5 : DataW.trod enc Tryz.prog W 0 (fun _ => true) true m 58 [c5] = some y5 := by
      have this : DataW.trod enc Tryz.prog W 0 (fun _ => true) true m 58 (([c0, c1, c2, c3, c4, c5].drop 5).take (Tryz.prog.cellsOf 58)) = some y5 := hf 5 _ rfl
      rw [cells_pairs] at this
      exact this
    obtain ⟨k, e0, x0, _⟩ := DataW.trod_int Tryz.underlying3 f0
    obtain ⟨n', e1, x1, _⟩ := DataW.trod_int Tryz.underlying3 f1
    obtain ⟨b, e2, x2⟩ := DataW.trod_bool Tryz.underlying4 f2
    obtain ⟨S, e3, x3, _⟩ := DataW.trod_string Tryz.underlying9 f3
    obtain ⟨T, e4, x4, _⟩ := DataW.trod_string Tryz.underlying9 f4
    injection e0 with e0 _
    injection e1 with e1 _
    injection e2 with e2 _
    injection e3 with e3 _
    injection e4 with e4 _
    subst e0 e1 e2 e3 e4 x0 x1 x2 x3 x4
    refine ⟨⟨k, n', b, S, T, c5⟩, y5.1, y5.2, m, rfl, ?_, f5⟩
    have := congrArg Prod.fst hx
    simpa using this

theorem add_plain6 (g off k : Nat) : (⟨g, off, none⟩ : Go.Addr).add k = ⟨g, off + k, none⟩ := by
  unfold Go.Addr.add
  split
  · rename_i h; rw [h]; rfl
  · rfl
theorem spot_none {W : World} {a : Go.Addr} {v : Value} (h : W.cell? a = some v) : a.spot = none ∧ a.block < W.heap.size := by
  unfold World.cell? at h
  constructor
  · split at h
    · split at h
      · cases h
      · rename_i h2; simpa using h2
    · cases h
  · by_cases hb : a.block < W.heap.size
    · exact hb
    · rw [Array.getElem?_eq_none (show W.heap.size ≤ a.block by omega)] at h
      simp at h

set_option maxRecDepth 100000 in
/-- A script that is handed in. -/
theorem open_ops {H : Type} {enc : TypeId × Value → H} {W : World} {base : Nat} {v : Value} {d : DataW H} {p : List MemPlace} (hv : Value.okWide Tryz.prog W .any base 22 v)
    (h0 : DataW.Trod enc Tryz.prog W 0 (fun _ => true) true 22 v d p) (hk : Rows.uptoBulk d ≤ 1048576) :
    ∃ (sp : Option Go.Addr) (cap : Nat) (os : List OpV), v = .slice sp os.length cap ∧ OpRow W sp os ∧ os.length ≤ 2097152 ∧ ∀ o ∈ os, o.S.size ≤ 2097152 ∧ o.T.size ≤ 2097152 ∧ ∃ (d5 : DataW H) (p5 : List MemPlace) (m : Nat), DataW.trod enc Tryz.prog W 0 (fun _ => true) true m 58 [o.lv] = some (d5, p5) ∧ Rows.uptoBulk d5 ≤ 1048576 := by
  obtain ⟨a0, len, cap, rfl⟩ := okWide_slice Tryz.underlying22 hv
  obtain ⟨fuel, hf⟩ := h0
  rcases Go.Deep.open_slice Tryz.underlying22 hf with ⟨hcs, hx⟩ | ⟨a, len', cap', m, n, D, Pl, hcs, _, hl, hm, hmm, hx, hel⟩
  · simp [Value.cells] at hcs
    obtain ⟨rfl, rfl, rfl⟩ := hcs
    exact ⟨none, 0, [], rfl, fun j o hj => by simp at hj, by simp, fun o ho => by cases ho⟩
  · simp [Value.cells] at hcs
    obtain ⟨rfl, rfl, rfl⟩ := hcs
    simp only [if_true] at hmm
    have each : ∀ i, i < len → ∃ q : OpV × DataW H × List MemPlace × Nat, (∀ (i' : Nat) c, [Value.int .i64 q.1.kind, .int .i64 q.1.n, .bool q.1.flag, .string q.1.S, .string q.1.T, q.1.lv][i']? = some c → W.cell? ((a.add (i * 6)).add i') = some c) ∧
        D i = .agg [.lit (.int .i64 q.1.kind), .lit (.int .i64 q.1.n), .lit (.bool q.1.flag), .lit (.string q.1.S.data.toList), .lit (.string q.1.T.data.toList), q.2.1] ∧ DataW.trod enc Tryz.prog W 0 (fun _ => true) true q.2.2.2 58 [q.1.lv] = some (q.2.1, q.2.2.1) := by
      intro i hi
      obtain ⟨cs', h1, h2⟩ := hel i (by omega)
      rw [cellsOp] at h1
      obtain ⟨_, hlen, hc⟩ := World.cells?_some h1
      obtain ⟨o, d5, p5, m5, rfl, hd, h5⟩ := open_op h2
      refine ⟨(o, d5, p5, m5), fun i' c hi' => ?_, hd, h5⟩
      have hlt : i' < 6 := by
        have := (List.getElem?_eq_some_iff.1 hi').1
        simpa using this
      rw [hc i' hlt, hi']
    obtain ⟨Q, hQ⟩ := Go.Deep.choose_lt (α := OpV × DataW H × List MemPlace × Nat) each
    have hd : d = .slice ((List.range len).map D) ((List.range (m - len)).map fun j => D (len + j)) := congrArg Prod.fst hx
    rw [hd, Rows.uptoBulk] at hk
    have hcount := bulk_count ((List.range len).map D)
    rw [List.length_map, List.length_range] at hcount
    refine ⟨some a, cap, (List.range len).map fun i => (Q i).1, by simp, ?_, by simp; omega, ?_⟩
    · intro j o hj
      have hjl : j < len := by
        have := (List.getElem?_eq_some_iff.1 hj).1
        simpa using this
      rw [List.getElem?_map, List.getElem?_range hjl] at hj
      simp only [Option.map_some, Option.some.injEq] at hj
      subst hj
      have hc := (hQ j hjl).1
      have h00 := (hQ 0 (by omega)).1 0 _ rfl
      have hsa := spot_none h00
      have hae : a = ⟨a.block, a.off, none⟩ := by
        have : ((a.add (0 * 6)).add 0) = a := by rw [Nat.zero_mul]; rfl
        rw [this] at hsa
        cases a
        simp at hsa
        rw [hsa.1]
      have hbl : a.block < W.heap.size := by
        have : ((a.add (0 * 6)).add 0) = a := by rw [Nat.zero_mul]; rfl
        rw [this] at hsa
        exact hsa.2
      generalize a.block = g at *
      generalize a.off = off at *
      subst hae
      refine ⟨g, off, rfl, hbl, ?_, ?_, ?_, ?_, ?_, ?_⟩
      · have := hc 0 _ rfl; rw [add_plain6, add_plain6] at this; exact this
      · have := hc 1 _ rfl; rw [add_plain6, add_plain6] at this; exact this
      · have := hc 2 _ rfl; rw [add_plain6, add_plain6] at this; exact this
      · have := hc 3 _ rfl; rw [add_plain6, add_plain6] at this; exact this
      · have := hc 4 _ rfl; rw [add_plain6, add_plain6] at this; exact this
      · have := hc 5 _ rfl; rw [add_plain6, add_plain6] at this; exact this
    · intro o ho
      obtain ⟨i, hi, rfl⟩ := List.mem_map.1 ho
      have hil := List.mem_range.1 hi
      obtain ⟨_, hD, h5⟩ := hQ i hil
      have hb := bulk_in (List.mem_map.2 ⟨i, hi, rfl⟩ : D i ∈ (List.range len).map D)
      rw [hD] at hb
      simp only [Rows.uptoBulk, Rows.uptoBulkAll] at hb
      have hs1 : (Q i).1.S.data.toList.length = (Q i).1.S.size := by rw [Array.length_toList]; rfl
      have hs2 : (Q i).1.T.data.toList.length = (Q i).1.T.size := by rw [Array.length_toList]; rfl
      rw [hs1, hs2] at hb
      exact ⟨by omega, by omega, _, _, _, h5, by omega⟩
end Go.Proofs.YtkcnageeamappaaGreatDoor
