import Derived.Test.YtkcnageeamappaaGreatDoorXFPlain
import Derived.Shelf.GgClosure.StringsTrimFunc
import Derived.Lib.TrimUEq
import Derived.Laws.RangeAny
import Derived.Test.YtkcnageeamappaaGreatDoorXASegs2
import Derived.Test.YtkcnageeamappaaGreatDoorXShelf
import Derived.Shelf.Strings.Builder1
import Derived.Shelf.Strings.Builder2
import Derived.Shelf.Strings.OnBuilder
import Derived.Shelf.Strings.Trim
import Derived.Shelf.Small.Utf8
import Derived.Shelf.Small.Strs
import Derived.Shelf.Small.Wraps
import Derived.Shelf.Strings.BuilderF
import Derived.Shelf.Strings.BuilderK
import Derived.Shelf.Strconv.Itoa0
import Derived.Shelf.Strconv.Itoa1
import Derived.Shelf.LaysM
import Derived.Shelf.Strconv.Itoa2
import Derived.Shelf.Strconv.Itoa3
import Derived.Ground.MpProg
import Derived.Shelf.Pu.ParseUintPublic10
import Derived.Shelf.Pu.ErrVarParseUint
import Derived.Shelf.Strings.Search1
import Derived.Shelf.Strings.Search2
import Derived.Shelf.Strings.Search3
import Derived.Shelf.Strings.Cut
import Derived.Shelf.Strings.Count
import Derived.Shelf.Strings.Shaped
import Derived.Shelf.Strings.LastIndex
import Derived.Shelf.GgClosure.StringsIndexFunc
import Derived.Shelf.Strings.Prefix
import Derived.Shelf.Strings.Split
import Derived.Shelf.Strings.Replace
import Derived.Shelf.Strings.SplitShaped
import Derived.Shelf.Unicode.Latin
import Derived.Shelf.Strings.Runes
import Derived.Shelf.Strings.AsciiSet
import Derived.Shelf.Unicode.DecodeSlow
import Derived.Shelf.Unicode.DecodeAny
import Derived.Shelf.Unicode.DecodeLast
import Derived.Shelf.Unicode.CaseLookup
import Derived.Shelf.Unicode.CaseConvert
import Derived.Shelf.Unicode.CaseTo
import Derived.Shelf.Unicode.CaseLaid
import Derived.Ground.Names2Prog
import Derived.Shelf.Slices.Clone
import Derived.Deep.DeepCutAuto
import Derived.Deep.RegionHeld3
import Derived.Deep.QuietTactic
import Derived.BigQuiet
import Derived.Test.YtkcnageeamappaaGreatDoorXQ11
namespace Go.Proofs
open Go.RowKit Go.Moor
theorem setRow_other (w : World) (g : Nat) (cs : Array Value) (j : Nat) (h : j ≠ g) : (w.setRow g cs).heap[j]? = w.heap[j]? := by
  unfold World.setRow
  simp [Array.getElem?_modify, Ne.symm h]
end Go.Proofs
namespace Go.Moor
open Go Go.Proofs
theorem lower_len (l : Bs) : (Lib.toLowerA l).length = l.length := by simp [Lib.toLowerA]
theorem sixTell_len (ps : List Nat) (h : ps.length = 8) : (sixTell ps).length ≤ 82 := by
  unfold sixTell
  split
  · have := tellRow_len ps
    omega
  · have h1 := tellRow_len (ps.take (noughts ps 0 0 0 0).1)
    have h2 := tellRow_len (ps.drop ((noughts ps 0 0 0 0).1 + (noughts ps 0 0 0 0).2))
    simp only [List.length_append, List.length_take, List.length_drop, List.length_cons, List.length_nil] at *
    omega
end Go.Moor
namespace Go.Proofs
open Go.RowKit Go.Moor
def RHostRes (o : Option Bs) (e : Ending) : Prop :=
  match o with
  | some t => e = .returned (.tuple #[.string ⟨t.toArray⟩, .bool true])
  | none => ∃ x, e = .returned (.tuple #[.string x, .bool false])
theorem forb_fin : ∀ c : Fin 256, forbP.contains c.val.toUInt8 = badP c.val.toUInt8 := by decide +kernel
theorem forb_is (c : UInt8) : forbP.contains c = badP c := by
  have h := forb_fin ⟨c.toNat, c.toNat_lt⟩
  simp only at h
  rw [show c.toNat.toUInt8 = c by simp] at h
  exact h
theorem badS_fin : ∀ c : Fin 256, badS c.val.toUInt8 = (badP c.val.toUInt8 || (decide (c.val < 32) || (decide (c.val = 37) || decide (126 < c.val)))) := by decide +kernel
theorem badS_is (c : UInt8) : badS c = (badP c || (decide (c.toNat < 32) || (decide (c.toNat = 37) || decide (126 < c.toNat)))) := by
  have h := badS_fin ⟨c.toNat, c.toNat_lt⟩
  simp only at h
  rw [show c.toNat.toUInt8 = c by simp] at h
  exact h
theorem suffix_snoc (m : Bs) (c : UInt8) : Lib.hasSuffix (m ++ [c]) [93] = decide (c = 93) := by
  unfold Lib.hasSuffix
  rw [Bool.eq_iff_iff, List.isSuffixOf_iff_suffix, decide_eq_true_eq]
  constructor
  · rintro ⟨t, ht⟩
    have := List.append_inj_right' ht rfl
    injection this with h
    exact h.symm
  · rintro rfl
    exact ⟨m, rfl⟩
theorem ints8_nats (ps : List Int) (h : ∀ p ∈ ps, okPiece p) : ints8 ps = ((ps.map Int.toNat).map fun p => Value.int .i64 (p : Nat)).toArray := by
  unfold ints8
  rw [List.map_map]
  congr 1
  refine List.map_congr_left fun p hp => ?_
  have := (h p hp).1
  simp
  omega
set_option maxHeartbeats 8000000 in
set_option maxRecDepth 8000 in
theorem Tryz.rhost_six (s : ByteArray) (sp : Bool) (w : World) (hs : s.size ≤ 2000) (hpf : Lib.hasPrefix s.data.toList [91] = true) :
    Calls Tryz.prog 67 #[.string s, .bool sp] w fun e w' => RHostRes (bracketed (s.data.toList.drop 1)) e ∧ Below w.heap.size w w' := by
  obtain ⟨l, hl⟩ : ∃ l, l = s.data.toList := ⟨_, rfl⟩
  have HLN : Hid (l.length = s.size) := by show _ = _; rw [hl, Array.length_toList]; rfl
  have HG : Hid (∀ (k : Nat) (h : k < s.size) (h2 : k < l.length), l[k] = s[k]) := by
    intro k h h2
    subst hl
    simp
    rfl
  have HXT : Hid (∀ i j : Nat, s.extract i j = ⟨((l.drop i).take (j - i)).toArray⟩) := by
    intro i j
    rw [hl]
    exact extract_list s i j
  rw [← hl] at hpf ⊢
  clear hl
  rw [prefix_head, decide_eq_true_eq] at hpf
  obtain ⟨r, hr⟩ : ∃ r, l = 91 :: r := by
    cases l with
    | nil => simp at hpf
    | cons x r => simp at hpf; exact ⟨r, by rw [hpf]⟩
  have h0 : 0 < s.size := by rw [← HLN.out, hr]; simp
  obtain ⟨k, hk⟩ : ∃ k, s.size = k + 1 := ⟨s.size - 1, by omega⟩
  have h91 : ((s[0].toNat : Int) == 91) = true := by
    have h2 : 0 < l.length := by rw [HLN.out]; exact h0
    rw [← HG.out 0 h0 h2]
    have : l[0]? = some 91 := by rw [hr]; rfl
    rw [List.getElem?_eq_getElem h2] at this
    rw [Option.some.inj this]
    rfl
  have hks : k < s.size := by omega
  have hkl : k < l.length := by rw [HLN.out]; exact hks
  have HKE : Hid (l[k] = s[k]) := HG.out k hks hkl
  have HD1 : Hid (l.drop 1 = r) := by show _ = _; rw [hr]; rfl
  suffices key : ∀ res : Option Bs, Hid (res = bracketed (l.drop 1)) → Calls Tryz.prog 67 #[.string s, .bool sp] w fun e w' => RHostRes res e ∧ Below w.heap.size w w' from key _ rfl
  intro res HRES
  by_cases h93 : s[k] = 93
  · have hk0 : 0 < k := by
      rcases Nat.eq_zero_or_pos k with h | h
      · subst h
        rw [h93] at h91
        simp at h91
      · exact h
    obtain ⟨m, hm⟩ : ∃ m, r = m ++ [93] := by
      have h1 : r.length = k := by have := HLN.out; rw [hr, hk] at this; simpa using this
      have h2 : r ≠ [] := by intro h; rw [h] at h1; simp at h1; omega
      refine ⟨r.dropLast, ?_⟩
      have h3 := List.dropLast_concat_getLast h2
      rw [← h3]
      have h4 : r.getLast h2 = 93 := by
        rw [← h93, ← HKE.out, List.getLast_eq_getElem]
        simp only [hr, h1]
        rw [List.getElem_cons, dif_neg (by omega)]
      rw [h4]
      simp
    have hml : m.length + 1 = k := by
      have := HLN.out
      rw [hr, hk, hm] at this
      simpa using this
    have HX : Hid (s.extract 1 k = ⟨m.toArray⟩) := by
      show _ = _
      rw [HXT.out 1 k, HD1.out, hm, List.take_append_of_le_length (by omega), List.take_of_length_le (by omega)]
    have HBR : Hid (res = match sixOf m with | some ps => some ([91] ++ (sixTell (ps.map Int.toNat) ++ [93])) | none => none) := by
      show _ = _
      have hsf := suffix_snoc m 93
      have htr : Lib.trimSuffix (m ++ [93]) [93] = m := by
        unfold Lib.trimSuffix
        rw [hsf]
        simp
      rw [HRES.out, HD1.out, hm]
      unfold bracketed
      rw [hsf, if_pos (by simp), htr]
      cases sixOf m <;> rfl
    have HSX : Hid (Calls Tryz.prog 116 #[.string (s.extract 1 k)] w fun e w' => SixPs (sixOf m) e ∧ Below w.heap.size w w') := by
      show Calls _ _ _ _ _
      have := Tryz.rsix_any (s.extract 1 k) w (by simp; omega)
      rw [HX.out] at this ⊢
      rw [← scan_six]
      exact this
    have h93p : (s[k].toNat : Int) = 93 := by rw [h93]; rfl
    have hk1 : (s.size : Int) - 1 = (k : Int) := by omega
    have hn1 : ((s.size : Int) == 1) = false := by rw [beq_eq_false_iff_ne]; omega
    have hki1 : (1 : Int) ≤ (k : Int) := by omega
    have hki2 : (k : Int) ≤ (s.size : Int) := by omega
    have h0i : (0 : Int) < (s.size : Int) := by omega
    clear hr hm hml h93 hpf HD1 HRES HXT HG hk
    cases hso : sixOf m with
    | none =>
      have HN : Hid (res = none) := by show _ = _; rw [HBR.out, hso]
      rw [hso] at HSX
      clear hso
      go_enter Tryz.func67, Tryz.ntmps67
      go_wp2_with fail
      refine Calls.mono HSX.out ?_
      rintro e w1 ⟨⟨r8, hr8, rfl⟩, hb1⟩
      have hw1 := hb1.size
      have HA : Hid ((w1.alloc (.cells (ints8 zero8) 34)).heap[w1.heap.size]? = some (.cells (ints8 zero8) 34 (0, 0))) := heap_alloc_new w1 _
      have HS8 : Hid ((Tryz.prog.info? 34).map (·.size) = some (ints8 r8).size) := by show _ = _; rw [ints8_size, hr8]; exact Tryz.size8i
      have HS88 : Hid ((ints8 zero8).size = (ints8 r8).size) := by show _ = _; rw [ints8_size r8, hr8]; rfl
      go_wp2_with (refine wpList_store_row rfl 34 _ _ rfl w1.heap.size (ints8 r8) rfl rfl 34 (ints8 zero8) HA.out HS8.out HS88.out (ints8_one _) ?_)
      go_ret2
      rw [HN.out]
      exact ⟨⟨_, rfl⟩, below_setRow (hb1.alloc hw1 _) hw1 _⟩
    | some ps =>
      obtain ⟨h8, hok⟩ := sixOf_ok m ps hso
      have HRS : Hid (res = some ([91] ++ (sixTell (ps.map Int.toNat) ++ [93]))) := by show _ = _; rw [HBR.out, hso]
      rw [hso] at HSX
      have HTE : Hid (∀ W, Calls Tryz.prog 117 #[.agg (ints8 ps)] W fun e w' => e = .returned (.string ⟨(sixTell (ps.map Int.toNat)).toArray⟩) ∧ Below W.heap.size W w') := by
        intro W
        rw [ints8_nats ps hok]
        exact Tryz.rtell_any (ps.map Int.toNat) (by rw [List.length_map]; exact h8) (fun p hp => by
          obtain ⟨q, hq, rfl⟩ := List.mem_map.1 hp
          have := hok q hq
          unfold okPiece at this
          omega) W
      have hsl := sixTell_len (ps.map Int.toNat) (by rw [List.length_map]; exact h8)
      have HAP : Hid ((⟨#[91]⟩ : ByteArray) ++ ⟨(sixTell (ps.map Int.toNat)).toArray⟩ ++ ⟨#[93]⟩ = ⟨([91] ++ (sixTell (ps.map Int.toNat) ++ [93])).toArray⟩) := by
        show _ = _
        have e1 : (⟨#[91]⟩ : ByteArray) ++ ⟨(sixTell (ps.map Int.toNat)).toArray⟩ = ⟨([91] ++ sixTell (ps.map Int.toNat)).toArray⟩ := app_mk [91] _
        rw [e1]
        exact (app_mk _ [93]).trans (by rw [List.append_assoc])
      have hz : (⟨(sixTell (ps.map Int.toNat)).toArray⟩ : ByteArray).size ≤ 82 := by rw [size_mk]; exact hsl
      generalize (⟨(sixTell (ps.map Int.toNat)).toArray⟩ : ByteArray) = tx at *
      have z91 : (⟨#[91]⟩ : ByteArray).size = 1 := rfl
      have z93 : (⟨#[93]⟩ : ByteArray).size = 1 := rfl
      have g0 : ∀ W : World, (Op.stringOp .add ⟨#[91]⟩ tx).run Tryz.prog W = .ok (.string (⟨#[91]⟩ ++ tx)) W := fun W => run_string_add_sum W _ _ (by omega)
      have g1 : ∀ W : World, (Op.stringOp .add (⟨#[91]⟩ ++ tx) ⟨#[93]⟩).run Tryz.prog W = .ok (.string (⟨#[91]⟩ ++ tx ++ ⟨#[93]⟩)) W := fun W => run_string_add_sum W _ _ (by simp only [ByteArray.size_append]; omega)
      have HS8 : Hid ((Tryz.prog.info? 34).map (·.size) = some (ints8 ps).size) := by show _ = _; rw [ints8_size, h8]; exact Tryz.size8i
      have HS88 : Hid ((ints8 zero8).size = (ints8 ps).size) := by show _ = _; rw [ints8_size ps, h8]; rfl
      clear hso hok h8 hsl hz z91 z93 HBR
      go_enter Tryz.func67, Tryz.ntmps67
      go_wp2_with fail
      refine Calls.mono HSX.out ?_
      rintro e w1 ⟨hx, hb1⟩
      have hx : e = _ := hx
      subst hx
      have hw1 := hb1.size
      have HA : Hid ((w1.alloc (.cells (ints8 zero8) 34)).heap[w1.heap.size]? = some (.cells (ints8 zero8) 34 (0, 0))) := heap_alloc_new w1 _
      have HA2 : Hid (((w1.alloc (.cells (ints8 zero8) 34)).setRow w1.heap.size (ints8 ps)).heap[w1.heap.size]? = some (.cells (ints8 ps) 34 (0, 0))) := setRow_heap _ w1.heap.size (ints8 zero8) (ints8 ps) 34 (0, 0) HA.out
      have HBB : Hid (Below w.heap.size w ((w1.alloc (.cells (ints8 zero8) 34)).setRow w1.heap.size (ints8 ps))) := below_setRow (hb1.alloc hw1 _) hw1 _
      clear hb1
      go_wp2_with (first | refine wpList_store_row rfl 34 _ _ rfl w1.heap.size (ints8 ps) rfl rfl 34 (ints8 zero8) HA.out HS8.out HS88.out (ints8_one _) ?_ | refine wpList_load_row rfl 34 _ rfl w1.heap.size rfl 34 (ints8 ps) (0, 0) _ HA2.out Tryz.underlying34 rfl HS8.out ?_)
      refine Calls.mono (HTE.out _) ?_
      rintro e w2 ⟨rfl, hb2⟩
      have HB2 : Hid (Below w.heap.size w w2) := HBB.out.trans (hb2.mono HBB.out.size)
      clear hb2
      go_wp2
      go_ret2
      rw [HRS.out]
      refine ⟨?_, HB2.out⟩
      show _ = Ending.returned (.tuple #[.string ⟨([91] ++ (sixTell (ps.map Int.toNat) ++ [93])).toArray⟩, .bool true])
      rw [← HAP.out]
      rfl
  · have HN : Hid (res = none) := by
      show _ = _
      rw [HRES.out, HD1.out]
      unfold bracketed
      rw [if_neg]
      intro h
      by_cases hr0 : r = []
      · rw [hr0] at h; simp [Lib.hasSuffix] at h
      · have h3 := List.dropLast_concat_getLast hr0
        rw [← h3, suffix_snoc, decide_eq_true_eq] at h
        apply h93
        have h1 : r.length = k := by have := HLN.out; rw [hr, hk] at this; simpa using this
        rw [← HKE.out, ← h, List.getLast_eq_getElem]
        have hk0 : 0 < k := by rw [← h1]; exact List.length_pos_iff.2 hr0
        simp only [hr, h1]
        rw [List.getElem_cons, dif_neg (by omega)]
    have h93p : ¬ (s[k].toNat : Int) = 93 := by
      intro h
      exact h93 (UInt8.toNat_inj.1 (by show s[k].toNat = 93; omega))
    have hk1 : (s.size : Int) - 1 = (k : Int) := by omega
    have h0i : (0 : Int) < (s.size : Int) := by omega
    clear hr h93 hpf HD1 HRES HXT HG hk
    go_enter Tryz.func67, Tryz.ntmps67
    go_wp2
    go_ret2
    rw [HN.out]
    exact ⟨⟨_, rfl⟩, Below.refl _ _⟩
end Go.Proofs
namespace Go.Proofs
open Go.RowKit Go.Moor
theorem Tryz.rforb_any (c : UInt8) (w : World) : Calls Tryz.prog 110 #[.string ⟨#[0, 9, 10, 13, 32, 35, 47, 58, 60, 62, 63, 64, 91, 92, 93, 94, 124]⟩, .int .u8 c.toNat] w fun e w' => e = .returned (.bool (badP c)) ∧ w' = w := by
  have h := Tryz.rhas_any ⟨#[0, 9, 10, 13, 32, 35, 47, 58, 60, 62, 63, 64, 91, 92, 93, 94, 124]⟩ c w (by decide)
  have e : (⟨#[0, 9, 10, 13, 32, 35, 47, 58, 60, 62, 63, 64, 91, 92, 93, 94, 124]⟩ : ByteArray).data.toList.contains c = badP c := forb_is c
  rw [e] at h
  exact h
theorem no_bracket (s : ByteArray) (h : Lib.hasPrefix s.data.toList [91] = false) : (¬ (0 : Int) < (s.size : Int)) ∨ ((0 : Int) < (s.size : Int) ∧ ∃ h0 : 0 < s.size, ((s[0].toNat : Int) == 91) = false) := by
  by_cases h0 : 0 < s.size
  · right
    refine ⟨by omega, h0, ?_⟩
    rw [beq_eq_false_iff_ne]
    intro hc
    have : s[0] = 91 := UInt8.toNat_inj.1 (by show s[0].toNat = 91; omega)
    rw [prefix_head, decide_eq_false_iff_not] at h
    apply h
    have hl : 0 < s.data.toList.length := by rw [Array.length_toList]; exact h0
    rw [List.head?_eq_getElem?, List.getElem?_eq_getElem hl, ← this]
    rfl
  · left
    omega
set_option maxHeartbeats 8000000 in
set_option maxRecDepth 8000 in
theorem Tryz.rhost_plain (s : ByteArray) (w : World) (hs : s.size ≤ 2000) (hpf : Lib.hasPrefix s.data.toList [91] = false) :
    Calls Tryz.prog 67 #[.string s, .bool false] w fun e w' => RHostRes (hostPlain s.data.toList) e ∧ Below w.heap.size w w' := by
  have HES : Hid (Calls Tryz.prog 40 #[.string s, .int .i64 0] w fun e w' => e = .returned (.string ⟨(esc 0 s.data.toList).toArray⟩) ∧ Below w.heap.size w w') := Tryz.rEscape_any s 0 w (by omega)
  have HFO : Hid (∀ (c : UInt8) w1, Calls Tryz.prog 110 #[.string ⟨#[0, 9, 10, 13, 32, 35, 47, 58, 60, 62, 63, 64, 91, 92, 93, 94, 124]⟩, .int .u8 c.toNat] w1 fun e w' => e = .returned (.bool (badP c)) ∧ w' = w1) := fun c w1 => Tryz.rforb_any c w1
  suffices key : ∀ res : Option Bs, Hid (res = hostPlain s.data.toList) → Calls Tryz.prog 67 #[.string s, .bool false] w fun e w' => RHostRes res e ∧ Below w.heap.size w w' from key _ rfl
  intro res HRES
  rcases no_bracket s hpf with h0 | ⟨h0, h1, h2⟩
  all_goals
    go_enter Tryz.func67, Tryz.ntmps67
    go_wp2_with fail
    go_loopw [9] (fun i wr => ∃ k : Nat, k ≤ s.size ∧ i = .int .i64 (k : Nat) ∧ (∀ (j : Nat) (hj : j < s.size), j < k → badP s[j] = false) ∧ wr = w) (fun i _ => s.size - (intOf i).toNat)
    case atStart => exact ⟨0, Nat.zero_le _, rfl, fun j hj h => by omega, rfl⟩
    case round =>
      obtain ⟨k, hk, rfl, hno, hwr⟩ := hrel
      have hwr := hwr.symm
      subst hwr
      have HNO : Hid (∀ (j : Nat) (hj : j < s.size), j < k → badP s[j] = false) := hno
      clear hno
      by_cases hlt : k < s.size
      · have HF : Hid _ := HFO.out s[k] w
        cases hb : badP s[k] with
        | true =>
          have HN : Hid (res = none) := by
            show _ = _
            rw [HRES.out]
            exact if_pos (any_badP s k hlt hb)
          rw [hb] at HF
          clear hb
          go_wp2_with fail
          refine Calls.mono HF.out ?_
          rintro e W0 ⟨rfl, hw0⟩
          have hw0 := hw0.symm
          subst hw0
          go_wp2
          go_ret2
          rw [HN.out]
          exact ⟨⟨_, rfl⟩, Below.refl _ _⟩
        | false =>
          have HNX : Hid (∀ (j : Nat) (hj : j < s.size), j < k + 1 → badP s[j] = false) := by
            intro j hj h
            by_cases e : j = k
            · subst e; exact hb
            · exact HNO.out j hj (by omega)
          rw [hb] at HF
          clear hb
          go_wp2_with fail
          refine Calls.mono HF.out ?_
          rintro e W0 ⟨rfl, hw0⟩
          have hw0 := hw0.symm
          subst hw0
          go_wp2
          go_roundw
          case rel => exact ⟨k + 1, by omega, by go_num, HNX.out, trivial⟩
          case measure => (simp [intOf]; try omega)
      · have HRS : Hid (res = some (esc 0 s.data.toList)) := by
          show _ = _
          rw [HRES.out]
          unfold hostPlain
          rw [if_neg]
          rw [any_goodP s (fun j hj => HNO.out j hj (by omega))]
          simp
        go_wp2_with fail
        refine Calls.mono HES.out ?_
        rintro e w1 ⟨rfl, b1⟩
        have HB1 : Hid (Below w.heap.size w w1) := b1
        clear b1
        go_wp2
        go_ret2
        rw [HRS.out]
        exact ⟨rfl, HB1.out⟩
theorem any_badS (s : ByteArray) (k : Nat) (h : k < s.size) (hb : badS s[k] = true) : s.data.toList.any badS = true := by
  rw [List.any_eq_true]
  exact ⟨s[k], List.mem_of_getElem? (i := k) (by rw [Array.getElem?_toList]; exact Array.getElem?_eq_getElem h), hb⟩
theorem any_goodS (s : ByteArray) (h : ∀ (j : Nat) (hj : j < s.size), badS s[j] = false) : s.data.toList.any badS = false := by
  rw [List.any_eq_false]
  intro x hx
  rw [List.mem_iff_getElem?] at hx
  obtain ⟨j, hj⟩ := hx
  rw [Array.getElem?_toList, Array.getElem?_eq_some_iff] at hj
  obtain ⟨h1, h2⟩ := hj
  have h3 := h j h1
  rw [← h2]
  intro h4
  have h5 : badS s[j] = true := h4
  rw [h3] at h5
  cases h5
theorem badS_ways (c : UInt8) (h : badS c = true) : badP c = true ∨ (badP c = false ∧ (c.toNat : Int) < 32) ∨ (badP c = false ∧ ¬ (c.toNat : Int) < 32 ∧ ((c.toNat : Int) == 37) = true) ∨ (badP c = false ∧ ¬ (c.toNat : Int) < 32 ∧ ((c.toNat : Int) == 37) = false ∧ (126 : Int) < (c.toNat : Int)) := by
  rw [badS_is] at h
  cases hb : badP c with
  | true => exact Or.inl rfl
  | false =>
    rw [hb] at h
    simp at h
    by_cases h1 : c.toNat < 32
    · exact Or.inr (Or.inl ⟨rfl, by omega⟩)
    · by_cases h2 : c.toNat = 37
      · exact Or.inr (Or.inr (Or.inl ⟨rfl, by omega, by rw [h2]; rfl⟩))
      · exact Or.inr (Or.inr (Or.inr ⟨rfl, by omega, by rw [beq_eq_false_iff_ne]; omega, by omega⟩))
theorem goodS_ways (c : UInt8) (h : badS c = false) : badP c = false ∧ ¬ (c.toNat : Int) < 32 ∧ ((c.toNat : Int) == 37) = false ∧ ¬ (126 : Int) < (c.toNat : Int) := by
  rw [badS_is] at h
  simp at h
  obtain ⟨h1, h2, h3, h4⟩ := h
  exact ⟨h1, by omega, by rw [beq_eq_false_iff_ne]; omega, by omega⟩
theorem lower_len (u : Bs) : (Lib.toLowerA u).length = u.length := by unfold Lib.toLowerA; exact List.length_map ..
theorem labels_nil : labels [] = [[]] := by decide
end Go.Proofs
