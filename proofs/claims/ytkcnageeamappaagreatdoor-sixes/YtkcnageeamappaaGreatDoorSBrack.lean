/-
  What host.tellBracketed answers, host.tell of a text that begins with a bracket, and moor.Host of one.
-/
import Derived.Test.YtkcnageeamappaaGreatDoorSIp6L
import Derived.Test.YtkcnageeamappaaGreatDoorSTell6
import Derived.Test.YtkcnageeamappaaGreatDoorHost
namespace Go.Proofs
open Go.RowKit Go.Moor

set_option maxHeartbeats 2000000 in
set_option maxRecDepth 100000 in
theorem Tryz.tellBracketed_any (s : ByteArray) (w : World) (hs : s.size < 4294967281) (henv : Tryz.Env w) (htz : Tryz.Tz w) :
    Calls Tryz.prog 83 #[.string s] w fun e w' => StrRes (bracketed s.data.toList) e ∧ Below w.heap.size w w' := by
  have hg15 := henv.size
  have HV : Hid (Tryz.Env w) := henv
  have HT : Hid (Tryz.Tz w) := htz
  have hcs := Tryz.strings_CutSuffix s ⟨#[93]⟩ w (by omega)
  rw [show (⟨#[93]⟩ : ByteArray).data.toList = [93] from rfl] at hcs
  by_cases hsuf : Lib.hasSuffix s.data.toList [93] = true
  · rw [hsuf] at hcs
    have HCS : Hid (Calls Tryz.prog 138 #[.string s, .string ⟨#[93]⟩] w fun e w' => e = .returned (.tuple #[.string ⟨(Lib.trimSuffix s.data.toList [93]).toArray⟩, .bool true]) ∧ w' = w) := hcs
    have hBR : bracketed s.data.toList = (match sixOf (Lib.trimSuffix s.data.toList [93]) with | some ps => some ([91] ++ (sixTell (ps.map Int.toNat) ++ [93])) | none => none) := by
      unfold bracketed
      rw [if_pos hsuf]
      rfl
    have htl : (Lib.trimSuffix s.data.toList [93]).length < 4294967281 := by
      unfold Lib.trimSuffix
      rw [if_pos hsuf]
      simp
      omega
    generalize Lib.trimSuffix s.data.toList [93] = I at *
    have HCT : Hid (Calls Tryz.prog 139 #[.string ⟨I.toArray⟩] w fun e w' => Tryz.SixRes (sixOf I) e ∧ Below w.heap.size w w') := Tryz.readIP6_any ⟨I.toArray⟩ w (by rw [size_mk]; exact htl) henv
    clear hcs henv htz hsuf htl
    cases ho : sixOf I with
    | none =>
      rw [ho] at HCT hBR
      rw [hBR]
      clear hBR ho
      go_enter Tryz.func83, Tryz.ntmps83
      go_wp2_with fail
      refine HCS.out.mono ?_
      rintro e w1 ⟨rfl, hw1⟩
      have hw1 := hw1.symm
      subst hw1
      go_wp2_with fail
      refine HCT.out.mono ?_
      rintro e w1 ⟨⟨te, ve, rfl⟩, hb1⟩
      have hw1 := hb1.size
      have HN : Hid ((w1.alloc (.cells (cells8 zero8) 177)).heap[w1.heap.size]? = some (.cells (cells8 zero8) 177 (0, 0))) := heap_alloc_new w1 _
      go_wp2_with (refine wpList_store_row rfl 177 _ _ rfl w1.heap.size (cells8 zero8) rfl rfl 177 (cells8 zero8) HN.out Tryz.size8 rfl (cells8_one _) ?_)
      go_ret2
      exact ⟨⟨_, _, rfl⟩, below_setRow (hb1.alloc hw1 _) hw1 _⟩
    | some ps =>
      have hok := sixOf_ok I ps ho
      have hc8 := cells8_nats ps hok.2
      rw [ho] at HCT hBR
      have HCT2 : Hid (Calls Tryz.prog 139 #[.string ⟨I.toArray⟩] w fun e w' => e = .returned (.tuple #[.agg (nats8 (ps.map Int.toNat)), .nilIface]) ∧ Below w.heap.size w w') := by
        have := HCT.out
        refine this.mono ?_
        rintro e w' ⟨h1, h2⟩
        refine ⟨?_, h2⟩
        rw [← hc8]
        exact h1
      have h8 : (ps.map Int.toNat).length = 8 := by rw [List.length_map]; exact hok.1
      have HPS : Hid (∀ p ∈ ps.map Int.toNat, p < 65536) := by
        intro p hp
        obtain ⟨q, hq, rfl⟩ := List.mem_map.1 hp
        have := hok.2 q hq
        unfold okPiece at this
        omega
      rw [hBR]
      simp only []
      generalize ps.map Int.toNat = ns at *
      have H8 : Hid (ns.length = 8) := h8
      have HSZ : Hid ((Tryz.prog.info? 177).map (·.size) = some (nats8 ns).size) := by
        show _ = _
        rw [nats8_size, h8]; exact Tryz.size8
      have HS8 : Hid ((cells8 zero8).size = (nats8 ns).size) := by
        show _ = _
        rw [nats8_size, h8]; rfl
      have hsl : (sixTell ns).length ≤ 1000 := by
        have h1 := tellRow_len ns
        have h2 := tellRow_len (ns.take (noughts ns 0 0 0 0).1)
        have h3 := tellRow_len (ns.drop ((noughts ns 0 0 0 0).1 + (noughts ns 0 0 0 0).2))
        unfold sixTell
        split
        · omega
        · simp at h2 h3 ⊢
          omega
      clear hBR ho hok hc8 HCT h8
      go_enter Tryz.func83, Tryz.ntmps83
      go_wp2_with fail
      refine HCS.out.mono ?_
      rintro e w1 ⟨rfl, hw1⟩
      have hw1 := hw1.symm
      subst hw1
      go_wp2_with fail
      refine HCT2.out.mono ?_
      rintro e w1 ⟨rfl, hb1⟩
      have hw1 := hb1.size
      have HN : Hid ((w1.alloc (.cells (cells8 zero8) 177)).heap[w1.heap.size]? = some (.cells (cells8 zero8) 177 (0, 0))) := heap_alloc_new w1 _
      have HM : Hid (((w1.alloc (.cells (cells8 zero8) 177)).setRow w1.heap.size (nats8 ns)).heap[w1.heap.size]? = some (.cells (nats8 ns) 177 (0, 0))) := setRow_heap _ _ _ _ _ _ HN.out
      have HBX : Hid (Below w.heap.size w ((w1.alloc (.cells (cells8 zero8) 177)).setRow w1.heap.size (nats8 ns))) := below_setRow (hb1.alloc hw1 _) hw1 _
      have HVX : Hid (Tryz.Env ((w1.alloc (.cells (cells8 zero8) 177)).setRow w1.heap.size (nats8 ns))) := HV.out.below HBX.out
      have HTX : Hid (Tryz.Tz ((w1.alloc (.cells (cells8 zero8) 177)).setRow w1.heap.size (nats8 ns))) := HT.out.below HBX.out (by omega)
      go_wp2_with (first | refine wpList_store_row rfl 177 _ _ rfl w1.heap.size (nats8 ns) rfl rfl 177 (cells8 zero8) HN.out HSZ.out HS8.out (cells8_one _) ?_ | refine wpList_load_row rfl 177 _ rfl w1.heap.size rfl 177 (nats8 ns) (0, 0) _ HM.out Tryz.underlying177 rfl HSZ.out ?_ | fail)
      refine (Tryz.tellIP6_any ns _ H8.out HPS.out HVX.out HTX.out).mono ?_
      rintro e w2 ⟨rfl, hb2⟩
      go_wp2
      go_ret2
      refine ⟨?_, HBX.out.trans (hb2.mono HBX.out.size)⟩
      show Ending.returned (.tuple #[.string ((⟨[91].toArray⟩ ++ ⟨(sixTell ns).toArray⟩) ++ ⟨[93].toArray⟩), .nilIface]) = _
      rw [app_mk, app_mk, List.append_assoc]
      rfl
  · have hsf : Lib.hasSuffix s.data.toList [93] = false := Bool.eq_false_iff.2 hsuf
    rw [hsf] at hcs
    have HCS : Hid (Calls Tryz.prog 138 #[.string s, .string ⟨#[93]⟩] w fun e w' => e = .returned (.tuple #[.string ⟨(Lib.trimSuffix s.data.toList [93]).toArray⟩, .bool false]) ∧ w' = w) := hcs
    have hBR : bracketed s.data.toList = none := by unfold bracketed; rw [if_neg hsuf]
    rw [hBR]
    obtain ⟨te, ve, hce⟩ := henv.eBracket
    clear hcs henv htz hsuf hBR hsf
    go_enter Tryz.func83, Tryz.ntmps83
    go_wp2_with fail
    refine HCS.out.mono ?_
    rintro e w1 ⟨rfl, hw1⟩
    have hw1 := hw1.symm
    subst hw1
    go_wp2
    go_quiet (fail)
    go_wp2
    go_ret2
    exact ⟨⟨_, _, rfl⟩, Go.below_drewN (Below.refl _ _) _⟩

theorem strRes_ret {o : Option (List UInt8)} {e : Ending} (h : StrRes o e) : ∃ a b, e = .returned (.tuple #[a, b]) ∧ StrRes o (.returned (.tuple #[a, b])) := by
  cases o with
  | some l => exact ⟨_, _, h, rfl⟩
  | none => obtain ⟨t, v, h⟩ := h; exact ⟨_, _, h, ⟨t, v, rfl⟩⟩

set_option maxHeartbeats 1000000 in
theorem Tryz.tell_bracket (s : ByteArray) (sp : Bool) (w : World) (hs : s.size < 4294967281) (h1 : 1 ≤ s.size) (hpf : Lib.hasPrefix s.data.toList (⟨#[91]⟩ : ByteArray).data.toList = true) (henv : Tryz.Env w) (htz : Tryz.Tz w) :
    Calls Tryz.prog 55 #[.string s, .bool sp] w fun e w' => StrRes (bracketed (s.data.toList.drop 1)) e ∧ Below w.heap.size w w' := by
  have HP : Hid (Lib.hasPrefix s.data.toList (⟨#[91]⟩ : ByteArray).data.toList = true) := hpf
  have HC : Hid (Calls Tryz.prog 83 #[.string (s.extract 1 s.size)] w fun e w' => StrRes (bracketed (s.data.toList.drop 1)) e ∧ Below w.heap.size w w') := by
    have := Tryz.tellBracketed_any (s.extract 1 s.size) w (by rw [ByteArray.size_extract]; omega) henv htz
    rw [ext_drop s 1] at this
    exact this
  generalize bracketed (s.data.toList.drop 1) = o at *
  clear henv htz hpf
  go_enter Tryz.func55, Tryz.ntmps55
  go_wp2_with (go_at_call 82; refine (Tryz.prefix_yes _ _ _ HP.out).mono ?_; rintro e w' ⟨rfl, rfl⟩)
  refine HC.out.mono ?_
  rintro e w1 ⟨hr, hb1⟩
  obtain ⟨ra, rb, rfl, hr⟩ := strRes_ret hr
  have HR : Hid (StrRes o (.returned (.tuple #[ra, rb]))) := hr
  clear hr
  go_wp2
  go_ret2
  exact ⟨HR.out, hb1⟩

theorem Tryz.Host_bracket (s : ByteArray) (sp : Bool) (w : World) (henv : Tryz.Env w) (htz : Tryz.Tz w) (hs : s.size ≤ 2000) (h1 : 1 ≤ s.size) (hpf : Lib.hasPrefix s.data.toList (⟨#[91]⟩ : ByteArray).data.toList = true) :
    Calls Tryz.prog 18 #[.string s, .bool sp] w fun e w' => e = HostRes (bracketed (s.data.toList.drop 1)) ∧ Below w.heap.size w w' :=
  Tryz.Host_of s sp _ w henv hs (Tryz.tell_bracket s sp w (by omega) h1 hpf henv htz)
end Go.Proofs
