/-
  What Written of package moorkeep answers.
-/
import Derived.Test.YtkcnageeamappaaGreatDoorJKEnv
import Derived.Test.YtkcnageeamappaaGreatDoorJKWrittenP
import Derived.Test.YtkcnageeamappaaGreatDoorJKBeside
import Derived.Deep.RegionHeld3
namespace Go.Proofs
open Go.RowKit Go.Moor

theorem ports_at (k : Nat) (h : (k : Int) < 5) : ∃ pt, fivePorts[k]? = some pt ∧ pt.length ≤ 3 := by
  have hk : k < 5 := by omega
  match k, hk with
  | 0, _ => exact ⟨_, rfl, by decide⟩
  | 1, _ => exact ⟨_, rfl, by decide⟩
  | 2, _ => exact ⟨_, rfl, by decide⟩
  | 3, _ => exact ⟨_, rfl, by decide⟩
  | 4, _ => exact ⟨_, rfl, by decide⟩

/-- Which separator a number asks for. -/
def sepOf (x : Int) : Nat := pickN (x.tdiv 3) 4
def prsOf (xs : List Int) (ls : List Bs) : List (Nat × Bs) := List.zip (xs.map sepOf) ls
theorem prs_snd (xs : List Int) (ls : List Bs) (h : ls.length ≤ xs.length) : (prsOf xs ls).map (·.2) = ls := by
  unfold prsOf
  exact List.map_snd_zip (by simpa using h)
theorem prs_len (xs : List Int) (ls : List Bs) (h : ls.length ≤ xs.length) : (prsOf xs ls).length = ls.length := by
  unfold prsOf
  rw [List.length_zip, List.length_map]
  omega
theorem prs_at (xs : List Int) (ls : List Bs) (q : Nat) (x : Int) (y : Bs) (hx : xs[q]? = some x) (hy : ls[q]? = some y) : (prsOf xs ls)[q]? = some (sepOf x, y) := by
  unfold prsOf
  rw [List.getElem?_zip_eq_some]
  exact ⟨by rw [List.getElem?_map, hx]; rfl, hy⟩
theorem wr_next (s p pt : Bs) (j : Nat) (l : List (Nat × Bs)) (q n : Nat) (y : Bs) (h : l[q]? = some (n, y)) : wrText s p pt j (l.take (q + 1)) = wrText s p pt j (l.take q) ++ sepTxt n ++ y := by
  unfold wrText
  rw [List.take_add_one, h]
  simp [writtenTxt]
theorem Tryz.conv_one (w : World) (x : UInt8) : (convert 47 9 (.slice (some ⟨w.heap.size, 0, none⟩) 1 1)).run Tryz.prog (w.alloc (.cells #[.int .u8 x.toNat] 5)) = .ok (.string ⟨#[x]⟩) (w.alloc (.cells #[.int .u8 x.toNat] 5)) :=
  run_convert_bytes_back _ 47 9 5 ⟨w.heap.size, 0, none⟩ 1 [x] Tryz.underlying47 Tryz.underlying5 Tryz.underlying9 (fun i hi => by
    have : i = 0 := by simpa using hi
    subst this
    show World.cell? _ ⟨w.heap.size, 0, none⟩ = _
    rw [cell_heap (alloc_here w _ _) 0]
    simp)
set_option maxHeartbeats 16000000 in
set_option maxRecDepth 8000 in
theorem Tryz.Written_any (sp : Option Go.Addr) (cap : Nat) (xs : List Int) (c pr li : Int) (w : World) (hc0 : -(2 ^ 63) ≤ c) (hc1 : c < 2 ^ 63) (hp0 : -(2 ^ 63) ≤ pr) (hp1 : pr < 2 ^ 63) (hl0 : -(2 ^ 63) ≤ li) (hl1 : li < 2 ^ 63)
    (hx : ∀ x ∈ xs, -9223372036854775808 ≤ x ∧ x ≤ 9223372036854775807) (hrow : IntRow w sp xs) (henv : Tryz.Env2 w) (hsc : TxtRow 0 five w) (hpo : TxtRow 1 fivePorts w) :
    Calls Tryz.prog 9 #[.slice sp xs.length cap, .int .i64 c, .int .i64 pr, .int .i64 li] w fun e w' => e = .returned (.bool true) ∧ Below w.heap.size w w' := by
  have HPK : Hid (∀ w1, Calls Tryz.prog 14 #[.int .i64 c, .int .i64 5] w1 fun e w' => e = .returned (.int .i64 (pickN c 5)) ∧ w' = w1) := fun w1 => Tryz.pick_fun c 5 w1 hc0 hc1 (by omega) (by omega)
  have HPP : Hid (∀ w1, Calls Tryz.prog 14 #[.int .i64 pr, .int .i64 65536] w1 fun e w' => e = .returned (.int .i64 (pickN pr 65536)) ∧ w' = w1) := fun w1 => Tryz.pick_fun pr 65536 w1 hp0 hp1 (by omega) (by omega)
  have hqq := tdiv_range c hc0 hc1 7 (by omega)
  have hq0 : -(2 ^ 63) ≤ c.tdiv 7 := by omega
  have hq1 : c.tdiv 7 < 2 ^ 63 := by omega
  have HPJ : Hid (∀ w1, Calls Tryz.prog 14 #[.int .i64 (c.tdiv 7), .int .i64 6] w1 fun e w' => e = .returned (.int .i64 (pickN (c.tdiv 7) 6)) ∧ w' = w1) := fun w1 => Tryz.pick_fun (c.tdiv 7) 6 w1 hq0 hq1 (by omega) (by omega)
  have HPLI : Hid (∀ (N : Int) w1, 0 < N → N ≤ 1000000 → Calls Tryz.prog 14 #[.int .i64 li, .int .i64 N] w1 fun e w' => e = .returned (.int .i64 (pickN li N)) ∧ w' = w1) := fun N w1 h0 h1 => Tryz.pick_fun li N w1 hl0 hl1 h0 (by omega)
  have hk := pickN_lt c 5 (by omega)
  have hP := pickN_lt pr 65536 (by omega)
  have hj := pickN_lt (c.tdiv 7) 6 (by omega)
  generalize pickN c 5 = k at *
  generalize pickN pr 65536 = P at *
  generalize pickN (c.tdiv 7) 6 = j at *
  have HWD : Hid (∀ w1, Calls Tryz.prog 23 #[.int .i64 c] w1 fun e w' => ∃ l : Bs, wordB l ∧ l.length ≤ 4 ∧ e = .returned (.string ⟨l.toArray⟩) ∧ Below w1.heap.size w1 w') := fun w1 => Tryz.word_any c w1 hc0 hc1
  have HW5 : Hid (∀ w1, Below w.heap.size w w1 → Calls Tryz.prog 24 #[.slice sp xs.length cap, .int .i64 5] w1 fun e w' => ∃ (v : Value) (ls : List Bs), e = .returned v ∧ w'.ownsRow w1.heap.size 9 1 v ls.length (strs ls) ∧ ls.length = min xs.length 5 ∧ (∀ p ∈ ls, wordB p ∧ p.length ≤ 4) ∧ Below w1.heap.size w1 w') := fun w1 h1 => Tryz.words_any sp cap xs 5 w1 (by omega) hx (hrow.below h1)
  have HE : Hid (∀ w1, Below w.heap.size w w1 → Tryz.Env2 w1) := fun w1 h1 => henv.below h1
  have hgz : 0 < w.heap.size := by have := henv.env.size; omega
  have hgp : 1 < w.heap.size := by have := henv.env.size; omega
  obtain ⟨s, hks, hsm, hsl⟩ := five_at k hk
  obtain ⟨pt, hkp, hptl⟩ := ports_at k hk
  have HSC : Hid (∀ w1, Below w.heap.size w w1 → ∃ (a : Go.Addr) (cap : Nat), w1.cell? ⟨0, 0, none⟩ = some (.slice (some a) 5 cap) ∧ 5 ≤ cap ∧ w1.cell? (a.add k) = some (.string ⟨s.toArray⟩)) := by
    intro w1 b1
    obtain ⟨a, cap, h1, h2, h3, h4⟩ := hsc.below hgz b1
    exact ⟨a, cap, h1, h2, h4 k s hks⟩
  have HPO : Hid (∀ w1, Below w.heap.size w w1 → ∃ (a : Go.Addr) (cap : Nat), w1.cell? ⟨1, 0, none⟩ = some (.slice (some a) 5 cap) ∧ 5 ≤ cap ∧ w1.cell? (a.add k) = some (.string ⟨pt.toArray⟩)) := by
    intro w1 b1
    obtain ⟨a, cap, h1, h2, h3, h4⟩ := hpo.below hgp b1
    exact ⟨a, cap, h1, h2, h4 k pt hkp⟩
  have HRW : Hid (∀ w1, Below w.heap.size w w1 → IntRow w1 sp xs) := fun w1 h1 => hrow.below h1
  have HXB : Hid (∀ x ∈ xs, -9223372036854775808 ≤ x ∧ x ≤ 9223372036854775807) := hx
  have HKS : Hid (five[k]? = some s) := hks
  have HKP : Hid (fivePorts[k]? = some pt) := hkp
  clear hrow henv hx hc0 hc1 hp0 hp1 hl0 hl1 hsc hpo hqq hgz hgp hks hsm hkp
  go_enter Tryz.func9, Tryz.ntmps9
  go_wp2_with fail
  refine (HPK.out w).mono ?_
  rintro e W0 ⟨rfl, hw0⟩
  have hw0 := hw0.symm
  subst hw0
  go_wp2_with fail
  refine (HWD.out w).mono ?_
  rintro e w1 ⟨p, hp1, hp2', rfl, b1⟩
  have HP : Hid (wordB p) := hp1
  have HB1 : Hid (Below w.heap.size w w1) := b1
  obtain ⟨h, hh⟩ : ∃ h : Bs, h = p ++ 46 :: tNet := ⟨_, rfl⟩
  have HHP : Hid (h = p ++ 46 :: tNet) := hh
  have hhl : h.length ≤ 8 := by rw [hh]; simp [tNet]; omega
  have hhb : (⟨p.toArray⟩ : ByteArray) ++ ⟨#[46, 110, 101, 116]⟩ = ⟨h.toArray⟩ := by rw [hh]; exact app_mk p (46 :: tNet)
  have zp : (⟨p.toArray⟩ : ByteArray).size = p.length := size_mk p
  have z4 : (⟨#[46, 110, 101, 116]⟩ : ByteArray).size = 4 := rfl
  have g0 : ∀ W : World, (Op.stringOp .add (⟨p.toArray⟩) ⟨#[46, 110, 101, 116]⟩).run Tryz.prog W = .ok (.string (⟨p.toArray⟩ ++ ⟨#[46, 110, 101, 116]⟩)) W := fun W => run_string_add_sum W _ _ (by (try simp only [ByteArray.size_append]); omega)
  clear hp1 b1 hh
  go_wp2_with fail
  clear g0 zp z4 hhb
  have HN : Hid (∀ (q : Nat) (x : UInt8), h[q]? = some x → bigOf 0 (h.take (q + 1)) = bigOf 0 (h.take q) ++ [capAt q x]) := fun q x hq => bigOf_next h q x hq
  have hhz : (⟨h.toArray⟩ : ByteArray).size = h.length := size_mk h
  have HGE : Hid (∀ (q : Nat) (hq : q < (⟨h.toArray⟩ : ByteArray).size), h[q]? = some (⟨h.toArray⟩ : ByteArray)[q]) := by
    intro q hq
    rw [size_mk] at hq
    rw [List.getElem?_eq_getElem hq]
    rfl
  have HHB : Hid (∃ hb : ByteArray, hb = ⟨h.toArray⟩) := ⟨_, rfl⟩
  obtain ⟨hb, hhbe⟩ := HHB.out
  rw [← hhbe] at HGE hhz ⊢
  have HHE : Hid (hb = ⟨h.toArray⟩) := hhbe
  clear hhbe HHB
  go_loopw [11, 12] (fun b i wr => ∃ q : Nat, q ≤ h.length ∧ i = .int .i64 q ∧ b = .string ⟨(bigOf 0 (h.take q)).toArray⟩ ∧ Below w.heap.size w wr) (fun _ i _ => h.length - (intOf i).toNat)
  case atStart => exact ⟨0, Nat.zero_le _, rfl, rfl, HB1.out⟩
  case round =>
    obtain ⟨q, hq, rfl, rfl, hbr⟩ := hrel
    have HBR : Hid (Below w.heap.size w wr) := hbr
    by_cases hlt : q < h.length
    · have hqs : q < hb.size := by omega
      have hge := HGE.out q hqs
      have hnx := HN.out q _ hge
      have hbl : (bigOf 0 (h.take q)).length ≤ 8 := by rw [bigOf_len, List.length_take]; omega
      rw [← size_mk] at hbl
      have HNX : Hid ((⟨(bigOf 0 (h.take q)).toArray⟩ : ByteArray) ++ ⟨#[capAt q hb[q]]⟩ = ⟨(bigOf 0 (h.take (q + 1))).toArray⟩) := by
        show _ = _
        rw [hnx]
        exact app_mk _ [_]
      have z1 : (⟨#[capAt q hb[q]]⟩ : ByteArray).size = 1 := rfl
      generalize (⟨(bigOf 0 (h.take q)).toArray⟩ : ByteArray) = bq at *
      have g0 : ∀ W : World, (Op.stringOp .add bq ⟨#[capAt q hb[q]]⟩).run Tryz.prog W = .ok (.string (bq ++ ⟨#[capAt q hb[q]]⟩)) W := fun W => run_string_add_sum W _ _ (by omega)
      clear hnx hge hbr hbl z1
      have hlt2 := hb[q].toNat_lt
      by_cases hc : q % 2 = 0
      · have hm : (q : Int) % 2 = 0 := by omega
        by_cases hc2 : 97 ≤ hb[q].toNat
        · have hcap : ((capAt q hb[q]).toNat : Int) = (hb[q].toNat : Int) - 32 := by
            unfold capAt
            rw [if_pos ⟨hc, hc2⟩]
            have : (32 : UInt8) ≤ hb[q] := by
              rw [UInt8.le_iff_toNat_le]
              show 32 ≤ hb[q].toNat
              omega
            rw [UInt8.toNat_sub_of_le _ _ this]
            show ((hb[q].toNat - 32 : Nat) : Int) = _
            omega
          have hcv := Tryz.conv_one wr (capAt q hb[q])
          rw [hcap] at hcv
          have hc3 : (97 : Int) ≤ hb[q].toNat := by omega
          generalize capAt q hb[q] = y at *
          clear hcap hc2
          go_wp2
          go_roundw
          case rel => exact ⟨q + 1, by omega, by go_num, congrArg Value.string HNX.out, HBR.out.alloc HBR.out.size _⟩
          case measure => (simp [intOf]; try omega)
        · have hcap : ((capAt q hb[q]).toNat : Int) = (hb[q].toNat : Int) := by
            unfold capAt
            rw [if_neg (fun x => hc2 x.2)]
          have hcv := Tryz.conv_one wr (capAt q hb[q])
          rw [hcap] at hcv
          have hc3 : ¬ (97 : Int) ≤ hb[q].toNat := by omega
          generalize capAt q hb[q] = y at *
          clear hcap hc2
          go_wp2
          go_roundw
          case rel => exact ⟨q + 1, by omega, by go_num, congrArg Value.string HNX.out, HBR.out.alloc HBR.out.size _⟩
          case measure => (simp [intOf]; try omega)
      · have hm : (q : Int) % 2 = 1 := by omega
        have hcap : ((capAt q hb[q]).toNat : Int) = (hb[q].toNat : Int) := by
          unfold capAt
          rw [if_neg (fun x => hc x.1)]
        have hcv := Tryz.conv_one wr (capAt q hb[q])
        rw [hcap] at hcv
        generalize capAt q hb[q] = y at *
        clear hcap
        go_wp2
        go_roundw
        case rel => exact ⟨q + 1, by omega, by go_num, congrArg Value.string HNX.out, HBR.out.alloc HBR.out.size _⟩
        case measure => (simp [intOf]; try omega)
    · have hqn : q = h.length := by omega
      subst hqn
      rw [List.take_length]
      obtain ⟨bg, hbge⟩ : ∃ bg : ByteArray, bg = ⟨(bigOf 0 h).toArray⟩ := ⟨_, rfl⟩
      rw [← hbge]
      have hbgz : bg.size ≤ 8 := by rw [hbge, size_mk, bigOf_len]; omega
      have HBG : Hid (bg = ⟨(bigOf 0 h).toArray⟩) := hbge
      clear hbge HN HGE hbr hlt hq
      go_wp2_with fail
      refine (HW5.out wr HBR.out).mono ?_
      rintro e w2 ⟨v, ls, rfl, hown, hlen, hls, hb2⟩
      obtain ⟨sp2, cap2, hvf, hnc, hcm, hf2⟩ := own_shape hown
      subst hvf
      have HL : Hid (∀ p ∈ ls, wordB p ∧ p.length ≤ 4) := hls
      have hl5 : ls.length ≤ 5 := by omega
      have hlx : ls.length ≤ xs.length := by omega
      have HB2 : Hid (Below w.heap.size w w2) := HBR.out.trans (hb2.mono HBR.out.size)
      have HSR : Hid (∀ W1, Below w2.heap.size w2 W1 → SegRow0 W1 (.slice sp2 ls.length cap2) ls) := fun W1 h1 => (own_seg (own_below hown h1)).1
      unfold maxLen at hcm
      clear hown hls hb2 hf2 hlen HW5
      obtain ⟨W3, hW3⟩ : ∃ W3, W3 = w2.alloc (.cells #[.string ⟨#[]⟩, .string ⟨#[47]⟩, .string ⟨#[47, 47]⟩, .string ⟨#[92]⟩, .string ⟨#[92, 47]⟩, .string ⟨#[47, 47, 47, 47, 92]⟩] 9) := ⟨_, rfl⟩
      have HB3 : Hid (Below w2.heap.size w2 W3) := by
        show Below _ _ _
        rw [hW3]
        exact (Below.refl _ _).alloc (Nat.le_refl _) _
      have hz3 : W3.heap.size = w2.heap.size + 1 := by rw [hW3]; simp
      have HB4 : Hid (Below w.heap.size w W3) := HB2.out.trans (HB3.out.mono HB2.out.size)
      have hsl : W3.cell? ⟨w2.heap.size, j, none⟩ = some (.string ⟨(slashTxt j).toArray⟩) := by
        rw [hW3, cell_heap (alloc_here w2 _ _) j]
        have h6 : j < 6 := by omega
        match j, h6 with
        | 0, _ => rfl
        | 1, _ => rfl
        | 2, _ => rfl
        | 3, _ => rfl
        | 4, _ => rfl
        | 5, _ => rfl
      obtain ⟨a0, c0, e1, e2, e3⟩ := HSC.out W3 HB4.out
      obtain ⟨a5, c5, f1, f2, f3⟩ := HPO.out W3 HB4.out
      have HW3 : Hid (W3 = w2.alloc (.cells #[.string ⟨#[]⟩, .string ⟨#[47]⟩, .string ⟨#[47, 47]⟩, .string ⟨#[92]⟩, .string ⟨#[92, 47]⟩, .string ⟨#[47, 47, 47, 47, 92]⟩] 9)) := hW3
      have zs : (⟨s.toArray⟩ : ByteArray).size = s.length := size_mk s
      have zt : (⟨pt.toArray⟩ : ByteArray).size = pt.length := size_mk pt
      have zl : (⟨(slashTxt j).toArray⟩ : ByteArray).size ≤ 5 := by rw [size_mk]; exact slash_len j
      have z2 : (⟨#[32, 32]⟩ : ByteArray).size = 2 := rfl
      have z1 : (⟨#[58]⟩ : ByteArray).size = 1 := rfl
      obtain ⟨sl, hsle⟩ : ∃ sl : ByteArray, sl = ⟨(slashTxt j).toArray⟩ := ⟨_, rfl⟩
      rw [← hsle] at hsl zl
      have HSLE : Hid (sl = ⟨(slashTxt j).toArray⟩) := hsle
      clear hsle hW3
      have g0 : ∀ W : World, (Op.stringOp .add (⟨#[32, 32]⟩) ⟨s.toArray⟩).run Tryz.prog W = .ok (.string (⟨#[32, 32]⟩ ++ ⟨s.toArray⟩)) W := fun W => run_string_add_sum W _ _ (by (try simp only [ByteArray.size_append]); omega)
      have g1 : ∀ W : World, (Op.stringOp .add (⟨#[32, 32]⟩ ++ ⟨s.toArray⟩) ⟨#[58]⟩).run Tryz.prog W = .ok (.string (⟨#[32, 32]⟩ ++ ⟨s.toArray⟩ ++ ⟨#[58]⟩)) W := fun W => run_string_add_sum W _ _ (by (try simp only [ByteArray.size_append]); omega)
      have g2 : ∀ W : World, (Op.stringOp .add (⟨#[32, 32]⟩ ++ ⟨s.toArray⟩ ++ ⟨#[58]⟩) sl).run Tryz.prog W = .ok (.string (⟨#[32, 32]⟩ ++ ⟨s.toArray⟩ ++ ⟨#[58]⟩ ++ sl)) W := fun W => run_string_add_sum W _ _ (by (try simp only [ByteArray.size_append]); omega)
      have g3 : ∀ W : World, (Op.stringOp .add (⟨#[32, 32]⟩ ++ ⟨s.toArray⟩ ++ ⟨#[58]⟩ ++ sl) bg).run Tryz.prog W = .ok (.string (⟨#[32, 32]⟩ ++ ⟨s.toArray⟩ ++ ⟨#[58]⟩ ++ sl ++ bg)) W := fun W => run_string_add_sum W _ _ (by (try simp only [ByteArray.size_append]); omega)
      have g4 : ∀ W : World, (Op.stringOp .add (⟨#[32, 32]⟩ ++ ⟨s.toArray⟩ ++ ⟨#[58]⟩ ++ sl ++ bg) ⟨#[58]⟩).run Tryz.prog W = .ok (.string (⟨#[32, 32]⟩ ++ ⟨s.toArray⟩ ++ ⟨#[58]⟩ ++ sl ++ bg ++ ⟨#[58]⟩)) W := fun W => run_string_add_sum W _ _ (by (try simp only [ByteArray.size_append]); omega)
      have g5 : ∀ W : World, (Op.stringOp .add (⟨#[32, 32]⟩ ++ ⟨s.toArray⟩ ++ ⟨#[58]⟩ ++ sl ++ bg ++ ⟨#[58]⟩) ⟨pt.toArray⟩).run Tryz.prog W = .ok (.string (⟨#[32, 32]⟩ ++ ⟨s.toArray⟩ ++ ⟨#[58]⟩ ++ sl ++ bg ++ ⟨#[58]⟩ ++ ⟨pt.toArray⟩)) W := fun W => run_string_add_sum W _ _ (by (try simp only [ByteArray.size_append]); omega)
      go_wp2_with fail
      rw [← HW3.out]
      have hwr7 : IntKind.i64.wrap (c.tdiv 7) = c.tdiv 7 := by rw [IntKind.wrap_i64]; omega
      have hk0 : (0 : Int) ≤ (k : Int) := by omega
      have hj0 : (0 : Int) ≤ (j : Int) := by omega
      go_region_held3 (fun w' => w'.cell? ⟨0, 0, none⟩ = some (.slice (some a0) 5 c0) ∧ w'.cell? (a0.add k) = some (.string ⟨s.toArray⟩) ∧ w'.cell? ⟨w2.heap.size, j, none⟩ = some (.string sl) ∧ w'.cell? ⟨1, 0, none⟩ = some (.slice (some a5) 5 c5) ∧ w'.cell? (a5.add k) = some (.string ⟨pt.toArray⟩)) (go_keep) (first | (go_at_call 14; refine Calls.mono (HPJ.out _) ?_; rintro e W0 ⟨rfl, hw0⟩; have hw0 := hw0.symm; subst hw0))
      obtain ⟨t0, ht0⟩ : ∃ t0 : ByteArray, t0 = ⟨#[32, 32]⟩ ++ ⟨s.toArray⟩ ++ ⟨#[58]⟩ ++ sl ++ bg ++ ⟨#[58]⟩ ++ ⟨pt.toArray⟩ := ⟨_, rfl⟩
      rw [← ht0]
      have HT0 : Hid (t0 = ⟨(wrText s p pt j ((prsOf xs ls).take 0)).toArray⟩) := by
        show _ = _
        rw [ht0, HSLE.out, HBG.out, HHP.out]
        unfold wrText
        rw [List.take_zero, show writtenTxt [] = [] from rfl, List.append_nil]
        simp only [← app_mk]
      clear ht0 g0 g1 g2 g3 g4 g5 e1 e2 e3 f1 f2 f3 hsl HW3 zl zs zt z1 z2
      clear HPJ hwr7 hj hj0 hq0 hq1
      go_wp2_with fail
      have HLC : Hid (∀ W1, Below w2.heap.size w2 W1 → ∀ (i : Nat) y, ls[i]? = some y → ∃ g, sp2 = some ⟨g, 0, none⟩ ∧ g < W1.heap.size ∧ W1.cell? ⟨g, i, none⟩ = some (.string ⟨y.toArray⟩)) := by
        intro W1 h1 i y hy
        obtain ⟨sq, cq, hv, _, _, hf⟩ := HSR.out W1 h1
        injection hv with e1 e2 e3
        subst e1
        obtain ⟨g, hg, hc⟩ := hf (by intro e; rw [e] at hy; simp at hy)
        exact ⟨g, hg, cell_lt (hc i y hy), hc i y hy⟩
      have HTL : Hid (∀ q, (⟨(wrText s p pt j ((prsOf xs ls).take q)).toArray⟩ : ByteArray).size ≤ 1000) := by
        intro q
        rw [size_mk]
        have h4 := slash_len j
        have h6 : ∀ y ∈ (prsOf xs ls).take q, y.2.length ≤ 4 := fun y hy => (HL.out y.2 (by
          have := List.mem_of_mem_take hy
          rw [← prs_snd xs ls hlx]
          exact List.mem_map.2 ⟨y, this, rfl⟩)).2
        have h5 := written_len _ h6
        have h7 := prs_len xs ls hlx
        unfold wrText
        rw [List.length_take] at h5
        simp only [List.length_append, List.length_cons, List.length_nil, bigOf_len, tNet]
        omega
      have HNX : Hid (∀ (q : Nat) x y, xs[q]? = some x → ls[q]? = some y → (⟨(wrText s p pt j ((prsOf xs ls).take q)).toArray⟩ : ByteArray) ++ ⟨(sepTxt (sepOf x)).toArray⟩ ++ ⟨y.toArray⟩ = ⟨(wrText s p pt j ((prsOf xs ls).take (q + 1))).toArray⟩) := by
        intro q x y hx hy
        rw [wr_next s p pt j _ q (sepOf x) y (prs_at xs ls q x y hx hy)]
        simp only [← app_mk]
      rw [HT0.out]
      go_loopw [16, 17] (fun t i wr => ∃ q : Nat, q ≤ ls.length ∧ i = .int .i64 q ∧ t = .string ⟨(wrText s p pt j ((prsOf xs ls).take q)).toArray⟩ ∧ Below W3.heap.size W3 wr) (fun _ i _ => ls.length - (intOf i).toNat)
      case atStart => exact ⟨0, Nat.zero_le _, rfl, rfl, by first | exact Below.refl _ _ | exact same_heap rfl rfl rfl rfl⟩
      case round =>
        obtain ⟨q, hq, rfl, rfl, hbr⟩ := hrel
        have HBW : Hid (Below W3.heap.size W3 wr) := hbr
        have HBX : Hid (Below w2.heap.size w2 wr) := HB3.out.trans (hbr.mono (by omega))
        have HBY : Hid (Below w.heap.size w wr) := HB4.out.trans (hbr.mono HB4.out.size)
        by_cases hlt : q < ls.length
        · obtain ⟨x, hx⟩ : ∃ x, xs[q]? = some x := ⟨xs[q], List.getElem?_eq_getElem (by omega)⟩
          obtain ⟨y, hy⟩ : ∃ y, ls[q]? = some y := ⟨ls[q], List.getElem?_eq_getElem hlt⟩
          obtain ⟨ax, hsx, hab, hcx⟩ := HRW.out wr HBY.out q x hx
          obtain ⟨g, hsg, hgl, hcy⟩ := HLC.out wr HBX.out q y hy
          subst hsx
          subst hsg
          have HN1 : Hid (_ = _) := HNX.out q x y hx hy
          have hyl := (HL.out y (List.mem_of_getElem? hy)).2
          have hxb := HXB.out x (List.mem_of_getElem? hx)
          have hxd := tdiv_range x (by omega) (by omega) 3 (by omega)
          have hx0 : -(2 ^ 63) ≤ x.tdiv 3 := by omega
          have hx1 : x.tdiv 3 < 2 ^ 63 := by omega
          have HP4 : Hid (∀ w1, Calls Tryz.prog 14 #[.int .i64 (x.tdiv 3), .int .i64 4] w1 fun e w' => e = .returned (.int .i64 (sepOf x)) ∧ w' = w1) := fun w1 => Tryz.pick_fun (x.tdiv 3) 4 w1 hx0 hx1 (by omega) (by omega)
          have hwr3 : IntKind.i64.wrap (x.tdiv 3) = x.tdiv 3 := by rw [IntKind.wrap_i64]; omega
          have hn4 : ((sepOf x : Nat) : Int) < 4 := pickN_lt (x.tdiv 3) 4 (by omega)
          have zq := HTL.out q
          have zy : (⟨y.toArray⟩ : ByteArray).size = y.length := size_mk y
          have zn : (⟨(sepTxt (sepOf x)).toArray⟩ : ByteArray).size ≤ 6 := by rw [size_mk]; exact sep_len _
          have k1 : (wr.alloc (.cells #[.string ⟨#[47]⟩, .string ⟨#[92]⟩, .string ⟨#[47, 46, 47]⟩, .string ⟨#[47, 120, 47, 46, 46, 47]⟩] 9)).cell? ⟨wr.heap.size, sepOf x, none⟩ = some (.string ⟨(sepTxt (sepOf x)).toArray⟩) := by
            rw [cell_heap (alloc_here wr _ _) (sepOf x)]
            have h4 : sepOf x < 4 := by omega
            generalize sepOf x = n at *
            match n, h4 with
            | 0, _ => rfl
            | 1, _ => rfl
            | 2, _ => rfl
            | 3, _ => rfl
          have k2 : (wr.alloc (.cells #[.string ⟨#[47]⟩, .string ⟨#[92]⟩, .string ⟨#[47, 46, 47]⟩, .string ⟨#[47, 120, 47, 46, 46, 47]⟩] 9)).cell? (ax.add q) = some (.int .i64 x) := by
            rw [((Below.refl wr.heap.size wr).alloc (Nat.le_refl _) _).cell (p := ax.add q) (by rw [add_block]; exact hab)]
            exact hcx
          have k3 : (wr.alloc (.cells #[.string ⟨#[47]⟩, .string ⟨#[92]⟩, .string ⟨#[47, 46, 47]⟩, .string ⟨#[47, 120, 47, 46, 46, 47]⟩] 9)).cell? ⟨g, q, none⟩ = some (.string ⟨y.toArray⟩) := by
            rw [((Below.refl wr.heap.size wr).alloc (Nat.le_refl _) _).cell (p := ⟨g, q, none⟩) hgl]
            exact hcy
          have hn0 : (0 : Int) ≤ ((sepOf x : Nat) : Int) := by omega
          have hqx : (q : Int) < (xs.length : Int) := by omega
          generalize sepOf x = n at *
          generalize (⟨(wrText s p pt j ((prsOf xs ls).take q)).toArray⟩ : ByteArray) = tq at *
          generalize (⟨(sepTxt n).toArray⟩ : ByteArray) = sn at *
          generalize (⟨y.toArray⟩ : ByteArray) = yb at *
          have g0 : ∀ W : World, (Op.stringOp .add tq sn).run Tryz.prog W = .ok (.string (tq ++ sn)) W := fun W => run_string_add_sum W _ _ (by omega)
          have g1 : ∀ W : World, (Op.stringOp .add (tq ++ sn) yb).run Tryz.prog W = .ok (.string (tq ++ sn ++ yb)) W := fun W => run_string_add_sum W _ _ (by (try simp only [ByteArray.size_append]); omega)
          clear hx hy hbr hxb hxd zq zy zn hyl
          go_wp2_with fail
          go_region_with (go_at_call 14; refine Calls.mono (HP4.out _) ?_; rintro e W0 ⟨rfl, hw0⟩; have hw0 := hw0.symm; subst hw0)
          all_goals
            go_wp2
            go_roundw
            case rel =>
              refine ⟨_, _, _, _, _, _, _, _, _, _, _, _, _, _, _, _, _, _, _, _, _, _, _, _, ?_, rfl⟩
              exact ⟨q + 1, by omega, by go_num, congrArg Value.string HN1.out, by first | exact HBW.out.alloc HBW.out.size _ | exact HBW.out.trans ((same_heap rfl rfl rfl rfl : Below W3.heap.size wr wr.drew).alloc HBW.out.size _) | exact HBW.out.trans (((Below.refl wr.heap.size wr).alloc (Nat.le_refl _) _).mono HBW.out.size |>.trans (same_heap rfl rfl rfl rfl))⟩
            case measure => (simp [intOf]; try omega)
        · have hqn : q = ls.length := by omega
          subst hqn
          obtain ⟨prs, hprs⟩ : ∃ prs, prs = prsOf xs ls := ⟨_, rfl⟩
          have hpl : prs.length = ls.length := by rw [hprs]; exact prs_len xs ls hlx
          have hp2 : prs.map (·.2) = ls := by rw [hprs]; exact prs_snd xs ls hlx
          have hta : wrText s p pt j ((prsOf xs ls).take ls.length) = wrText s p pt j prs := by rw [← hprs, List.take_of_length_le (by omega)]
          have htl := HTL.out ls.length
          rw [hta] at htl ⊢
          have htm : 3 ≤ (⟨(wrText s p pt j prs).toArray⟩ : ByteArray).size := by
            rw [size_mk]
            unfold wrText
            simp only [List.length_append, List.length_cons, List.length_nil]
            omega
          have HPW : Hid (∀ y ∈ prs, wordB y.2 ∧ y.2.length ≤ 4) := fun y hy => HL.out y.2 (by rw [← hp2]; exact List.mem_map.2 ⟨y, hy, rfl⟩)
          obtain ⟨tt, htt⟩ : ∃ tt : ByteArray, tt = ⟨(wrText s p pt j prs).toArray⟩ := ⟨_, rfl⟩
          rw [← htt] at htl htm ⊢
          have HTT : Hid (tt = ⟨(wrText s p pt j prs).toArray⟩) := htt
          have HP2 : Hid (prs.map (·.2) = ls) := hp2
          -- the further calls
          have HPA : Hid (∀ W1, Below wr.heap.size wr W1 → Calls Tryz.prog 25 #[.slice sp2 ls.length cap2] W1 fun e w' => e = .returned (.string ⟨(tellSegs ls).toArray⟩) ∧ w' = W1) := fun W1 h1 => Tryz.path_any ls _ W1 (HSR.out W1 (HBX.out.trans (h1.mono HBX.out.size))) (by omega) (fun x hx => by have := (HL.out x hx).2; omega)
          have HB6 : Hid (∀ W1, Below wr.heap.size wr W1 → Below w.heap.size w W1) := fun W1 h1 => HBY.out.trans (h1.mono HBY.out.size)
          have hT : ∀ (t r : Bs) (W1 : World), Below wr.heap.size wr W1 → parse hostTell t [] = .ok r → Calls Tryz.prog 26 #[.string ⟨t.toArray⟩, .string ⟨#[]⟩, .string ⟨r.toArray⟩] W1 fun e w' => e = .returned (.bool true) ∧ Below wr.heap.size wr w' := by
            intro t r W1 h1 hp
            have hlen := parse_small hp
            refine (Tryz.told_any t [] r W1 (by omega) (by simp) (HE.out W1 (HB6.out W1 h1)) hp).mono ?_
            rintro e w' ⟨rfl, hb⟩
            exact ⟨rfl, h1.trans (hb.mono h1.size)⟩
          have hF : ∀ (t : Bs) (n : Int) (W1 : World), t.length ≤ 2000 → Below wr.heap.size wr W1 → parse hostTell t [] = .error n → Calls Tryz.prog 27 #[.string ⟨t.toArray⟩, .string ⟨#[]⟩, .int .i64 n] W1 fun e w' => e = .returned (.bool true) ∧ Below wr.heap.size wr w' := by
            intro t n W1 hlen h1 hp
            refine (Tryz.refused_any t [] n W1 (by omega) (by simp) (HE.out W1 (HB6.out W1 h1)) hp).mono ?_
            rintro e w' ⟨rfl, hb⟩
            exact ⟨rfl, h1.trans (hb.mono h1.size)⟩
          have hk5 : k < 5 := by omega
          have hP5 : P ≤ 65535 := by omega
          have hsl5 := hsl
          have HX1 : Hid (∀ (at' : Nat) W1, 2 ≤ at' → at' ≤ tt.size → Below wr.heap.size wr W1 → Calls Tryz.prog 26 #[.string (tt.extract 0 at' ++ ⟨#[10, 9, 13]⟩ ++ tt.extract at' tt.size ++ ⟨#[32]⟩), .string ⟨#[]⟩, .string ⟨(wrWant s p prs).toArray⟩] W1 fun e w' => e = .returned (.bool true) ∧ Below wr.heap.size wr w') := by
            intro at' W1 h2 h3 h1
            have h4 : at' ≤ (wrText s p pt j prs).length := by rw [htt, size_mk] at h3; exact h3
            have k1 := hT _ _ W1 h1 (wr1 s p pt ⟨k, hk5⟩ HKS.out HKP.out HP.out hp2' j prs HPW.out (by omega) at' h2 h4)
            simp only [← app_mk] at k1
            have x1 : tt.extract 0 at' = ⟨((wrText s p pt j prs).take at').toArray⟩ := by
              rw [htt]
              apply ByteArray.ext
              simp
            have x2 : tt.extract at' tt.size = ⟨((wrText s p pt j prs).drop at').toArray⟩ := by
              rw [htt]
              apply ByteArray.ext
              simp [ByteArray.size]
              exact List.take_of_length_le (by simp)
            rw [x1, x2]
            exact k1
          have HX2 : Hid (∀ W1, Below wr.heap.size wr W1 → Calls Tryz.prog 26 #[.string (⟨s.toArray⟩ ++ ⟨#[58, 47, 47, 117, 59, 118, 58, 112, 64, 113, 64]⟩ ++ hb ++ ⟨#[58]⟩ ++ ⟨#[48, 48, 48]⟩ ++ ⟨(Lib.decDigits P).toArray⟩ ++ ⟨#[63, 97, 39, 98, 34, 99, 35, 100, 96, 101]⟩), .string ⟨#[]⟩, .string (⟨s.toArray⟩ ++ ⟨#[58, 47, 47, 117, 37, 51, 66, 118, 58, 112, 37, 52, 48, 113, 64]⟩ ++ hb ++ ⟨(wrMark pt P).toArray⟩ ++ ⟨#[47, 63, 97, 37, 50, 55, 98, 37, 50, 50, 99, 35, 100, 37, 54, 48, 101]⟩)] W1 fun e w' => e = .returned (.bool true) ∧ Below wr.heap.size wr w') := by
            intro W1 h1
            have k1 := hT _ _ W1 h1 (wr2 s p pt ⟨k, hk5⟩ HKS.out HKP.out HP.out hp2' P hP5)
            rw [← HHP.out] at k1
            simp only [← app_mk] at k1
            rw [HHE.out]
            exact k1
          have HX3 : Hid (∀ W1, Below wr.heap.size wr W1 → Calls Tryz.prog 27 #[.string (⟨s.toArray⟩ ++ ⟨#[58, 47, 47]⟩ ++ hb ++ ⟨#[58]⟩ ++ ⟨(Lib.decDigits (65536 + P)).toArray⟩), .string ⟨#[]⟩, .int .i64 5] W1 fun e w' => e = .returned (.bool true) ∧ Below wr.heap.size wr w') := by
            intro W1 h1
            have k1 := hF _ _ W1 (by
              have := dec_short (65536 + P) (by omega)
              simp only [List.length_append, List.length_cons, List.length_nil, sep3, tNet]
              omega) h1 (wr3 s p ⟨k, hk5⟩ HKS.out HP.out hp2' P hP5)
            rw [← HHP.out] at k1
            simp only [← app_mk] at k1
            rw [HHE.out]
            exact k1
          have HX4 : Hid (∀ W1, Below wr.heap.size wr W1 → Calls Tryz.prog 27 #[.string (⟨s.toArray⟩ ++ ⟨#[58, 47, 47]⟩), .string ⟨#[]⟩, .int .i64 4] W1 fun e w' => e = .returned (.bool true) ∧ Below wr.heap.size wr w') := by
            intro W1 h1
            have k1 := hF _ _ W1 (by
              simp only [List.length_append, List.length_cons, List.length_nil, sep3]
              omega) h1 (wr4 s ⟨k, hk5⟩ HKS.out)
            simp only [← app_mk] at k1
            exact k1
          have HX5 : Hid (∀ W1, Below wr.heap.size wr W1 → Calls Tryz.prog 27 #[.string (⟨s.toArray⟩ ++ ⟨#[58, 47, 47, 117, 64]⟩), .string ⟨#[]⟩, .int .i64 4] W1 fun e w' => e = .returned (.bool true) ∧ Below wr.heap.size wr w') := by
            intro W1 h1
            have k1 := hF _ _ W1 (by
              simp only [List.length_append, List.length_cons, List.length_nil]
              omega) h1 (wr5 s ⟨k, hk5⟩ HKS.out)
            simp only [← app_mk] at k1
            exact k1
          have HX6 : Hid (∀ W1, Below wr.heap.size wr W1 → Calls Tryz.prog 26 #[.string (⟨#[120, 58]⟩ ++ hb ++ ⟨#[32, 121, 127]⟩), .string ⟨#[]⟩, .string (⟨#[120, 58]⟩ ++ hb ++ ⟨#[37, 50, 48, 121, 37, 55, 70]⟩)] W1 fun e w' => e = .returned (.bool true) ∧ Below wr.heap.size wr w') := by
            intro W1 h1
            have k1 := hT _ _ W1 h1 (wr6 p HP.out hp2')
            rw [← HHP.out] at k1
            simp only [← app_mk] at k1
            rw [HHE.out]
            exact k1
          have zs : (⟨s.toArray⟩ : ByteArray).size = s.length := size_mk s
          have zt : (⟨pt.toArray⟩ : ByteArray).size = pt.length := size_mk pt
          have zl : (⟨(tellSegs ls).toArray⟩ : ByteArray).size ≤ 25 := by
            rw [size_mk]
            have := tellSegs_small 4 ls (fun p hp => (HL.out p hp).2)
            omega
          have zd : (⟨(Lib.decDigits P).toArray⟩ : ByteArray).size ≤ 6 := by rw [size_mk]; exact dec_short P (by omega)
          have ze : (⟨(Lib.decDigits (65536 + P)).toArray⟩ : ByteArray).size ≤ 6 := by rw [size_mk]; exact dec_short (65536 + P) (by omega)
          have zm : (⟨(wrMark pt P).toArray⟩ : ByteArray).size ≤ 7 := by
            rw [size_mk]
            have := dec_short P (by omega)
            unfold wrMark
            split
            · simp
            · simp only [List.length_cons]; omega
          have zh : hb.size ≤ 8 := by omega
          have zc0 : (⟨#[58, 47, 47]⟩ : ByteArray).size = 3 := rfl
          have zc1 : (⟨#[47]⟩ : ByteArray).size = 1 := rfl
          have zc2 : (⟨#[58]⟩ : ByteArray).size = 1 := rfl
          have zc3 : (⟨#[48, 48, 48]⟩ : ByteArray).size = 3 := rfl
          have zc4 : (⟨#[58, 47, 47, 117, 59, 118, 58, 112, 64, 113, 64]⟩ : ByteArray).size = 11 := rfl
          have zc5 : (⟨#[63, 97, 39, 98, 34, 99, 35, 100, 96, 101]⟩ : ByteArray).size = 10 := rfl
          have zc6 : (⟨#[58, 47, 47, 117, 37, 51, 66, 118, 58, 112, 37, 52, 48, 113, 64]⟩ : ByteArray).size = 15 := rfl
          have zc7 : (⟨#[47, 63, 97, 37, 50, 55, 98, 37, 50, 50, 99, 35, 100, 37, 54, 48, 101]⟩ : ByteArray).size = 17 := rfl
          have zc8 : (⟨#[58, 47, 47, 117, 64]⟩ : ByteArray).size = 5 := rfl
          have zc9 : (⟨#[120, 58]⟩ : ByteArray).size = 2 := rfl
          have zc10 : (⟨#[32, 121, 127]⟩ : ByteArray).size = 3 := rfl
          have zc11 : (⟨#[37, 50, 48, 121, 37, 55, 70]⟩ : ByteArray).size = 7 := rfl
          have zc12 : (⟨#[10, 9, 13]⟩ : ByteArray).size = 3 := rfl
          have zc13 : (⟨#[32]⟩ : ByteArray).size = 1 := rfl
          have HDG : Hid (∀ W1, Below wr.heap.size wr W1 → Calls Tryz.prog 17 #[.int .i64 (P : Int), .int .i64 10] W1 fun e w' => e = .returned (.string ⟨(Lib.decDigits P).toArray⟩) ∧ Below wr.heap.size wr w') := by
            intro W1 h1
            refine (Tryz.digits10_int P W1 (by omega) (by omega)).mono ?_
            rintro e w' ⟨rfl, nd, rfl⟩
            refine ⟨?_, Go.below_drewN h1 nd⟩
            rw [show (P : Int).toNat = P from rfl, digs_dec 31 P (Nat.lt_of_lt_of_le (by omega : P < 4294967296) (pow_big 10 (by omega)))]
          have HDG2 : Hid (∀ W1, Below wr.heap.size wr W1 → Calls Tryz.prog 17 #[.int .i64 (65536 + (P : Int)), .int .i64 10] W1 fun e w' => e = .returned (.string ⟨(Lib.decDigits (65536 + P)).toArray⟩) ∧ Below wr.heap.size wr w') := by
            intro W1 h1
            refine (Tryz.digits10_int (65536 + P) W1 (by omega) (by omega)).mono ?_
            rintro e w' ⟨rfl, nd, rfl⟩
            refine ⟨?_, Go.below_drewN h1 nd⟩
            rw [show (65536 + (P : Int)).toNat = 65536 + P by omega, digs_dec 31 (65536 + P) (Nat.lt_of_lt_of_le (by omega : 65536 + P < 4294967296) (pow_big 10 (by omega)))]
          have hwa : IntKind.i64.wrap (65536 + (P : Int)) = 65536 + (P : Int) := by rw [IntKind.wrap_i64]; omega
          have HEQ : Hid (((⟨(Lib.decDigits P).toArray⟩ : ByteArray) = ⟨pt.toArray⟩ ∧ (⟨(wrMark pt P).toArray⟩ : ByteArray) = ⟨#[]⟩) ∨ ((⟨(Lib.decDigits P).toArray⟩ : ByteArray) ≠ ⟨pt.toArray⟩ ∧ (⟨(wrMark pt P).toArray⟩ : ByteArray) = ⟨#[58]⟩ ++ ⟨(Lib.decDigits P).toArray⟩)) := by
            by_cases h : Lib.decDigits P = pt
            · left
              refine ⟨by rw [h], ?_⟩
              unfold wrMark
              rw [if_pos h]
            · right
              refine ⟨fun e => h (by simpa using congrArg (fun b : ByteArray => b.data.toList) e), ?_⟩
              unfold wrMark
              rw [if_neg h]
              exact (app_mk [58] _).symm
          have HWW : Hid ((ls.length = 0 → (⟨s.toArray⟩ ++ ⟨#[58, 47, 47]⟩ ++ hb ++ ⟨(tellSegs ls).toArray⟩ ++ ⟨#[47]⟩ : ByteArray) = ⟨(wrWant s p prs).toArray⟩) ∧ (ls.length ≠ 0 → (⟨s.toArray⟩ ++ ⟨#[58, 47, 47]⟩ ++ hb ++ ⟨(tellSegs ls).toArray⟩ : ByteArray) = ⟨(wrWant s p prs).toArray⟩)) := by
            have e1 : (⟨s.toArray⟩ ++ ⟨#[58, 47, 47]⟩ ++ hb ++ ⟨(tellSegs ls).toArray⟩ : ByteArray) = ⟨(s ++ sep3 ++ (p ++ 46 :: tNet) ++ tellSegs ls).toArray⟩ := by
              rw [HHE.out, HHP.out]
              simp only [← app_mk]
              rfl
            refine ⟨fun h0 => ?_, fun h0 => ?_⟩
            · have hpe : prs = [] := List.length_eq_zero_iff.1 (by omega)
              rw [e1]
              unfold wrWant
              rw [if_pos hpe, HP2.out]
              exact app_mk _ [47]
            · have hpe : prs ≠ [] := fun e => h0 (by rw [← hpl, e]; rfl)
              rw [e1]
              unfold wrWant
              rw [if_neg hpe, HP2.out, List.append_nil]
          obtain ⟨a0, c0, e1, e2, e3⟩ := HSC.out wr HBY.out
          obtain ⟨a5, c5, f1, f2, f3⟩ := HPO.out wr HBY.out
          have HSW : Hid (∀ W1, Below wr.heap.size wr W1 → W1.cell? ⟨0, 0, none⟩ = some (.slice (some a0) 5 c0) ∧ W1.cell? (a0.add k) = some (.string ⟨s.toArray⟩)) := fun W1 h1 => ⟨(h1.cell (p := ⟨0, 0, none⟩) (cell_lt e1)).trans e1, (h1.cell (p := a0.add k) (cell_lt e3)).trans e3⟩
          have HPW2 : Hid (∀ W1, Below wr.heap.size wr W1 → W1.cell? ⟨1, 0, none⟩ = some (.slice (some a5) 5 c5) ∧ W1.cell? (a5.add k) = some (.string ⟨pt.toArray⟩)) := fun W1 h1 => ⟨(h1.cell (p := ⟨1, 0, none⟩) (cell_lt f1)).trans f1, (h1.cell (p := a5.add k) (cell_lt f3)).trans f3⟩
          have hk0 : (0 : Int) ≤ (k : Int) := by omega
          obtain ⟨ww, hww⟩ : ∃ ww : ByteArray, ww = ⟨(wrWant s p prs).toArray⟩ := ⟨_, rfl⟩
          rw [← hww] at HWW HX1
          generalize (⟨(tellSegs ls).toArray⟩ : ByteArray) = pl at *
          generalize (⟨(Lib.decDigits P).toArray⟩ : ByteArray) = dg at *
          generalize (⟨(Lib.decDigits (65536 + P)).toArray⟩ : ByteArray) = dg2 at *
          generalize (⟨(wrMark pt P).toArray⟩ : ByteArray) = mk at *
          clear hT hF hprs hp2 hta htt hww hbr hlt hq hpl HRW HXB HNX HLC HTL HSR HL
          have HWA : Hid (IntKind.i64.wrap (65536 + (P : Int)) = 65536 + (P : Int)) := hwa
          have HPP5 : Hid (P ≤ 65535) := hP5
          clear hwa hP hP5
          by_cases hl0 : ls.length = 0
          · have hwe := HWW.out.1 hl0
            have hpa := HPA.out
            rw [hl0] at hpa
            have HPX : Hid _ := hpa
            clear hpa
            have g0 : ∀ W : World, (Op.stringOp .add (⟨s.toArray⟩) ⟨#[58, 47, 47]⟩).run Tryz.prog W = .ok (.string (⟨s.toArray⟩ ++ ⟨#[58, 47, 47]⟩)) W := fun W => run_string_add_sum W _ _ (by (try simp only [ByteArray.size_append]); omega)
            have g1 : ∀ W : World, (Op.stringOp .add (⟨s.toArray⟩ ++ ⟨#[58, 47, 47]⟩) hb).run Tryz.prog W = .ok (.string (⟨s.toArray⟩ ++ ⟨#[58, 47, 47]⟩ ++ hb)) W := fun W => run_string_add_sum W _ _ (by (try simp only [ByteArray.size_append]); omega)
            have g2 : ∀ W : World, (Op.stringOp .add (⟨s.toArray⟩ ++ ⟨#[58, 47, 47]⟩ ++ hb) pl).run Tryz.prog W = .ok (.string (⟨s.toArray⟩ ++ ⟨#[58, 47, 47]⟩ ++ hb ++ pl)) W := fun W => run_string_add_sum W _ _ (by (try simp only [ByteArray.size_append]); omega)
            have g3 : ∀ W : World, (Op.stringOp .add (⟨s.toArray⟩ ++ ⟨#[58, 47, 47]⟩ ++ hb ++ pl) ⟨#[47]⟩).run Tryz.prog W = .ok (.string (⟨s.toArray⟩ ++ ⟨#[58, 47, 47]⟩ ++ hb ++ pl ++ ⟨#[47]⟩)) W := fun W => run_string_add_sum W _ _ (by (try simp only [ByteArray.size_append]); omega)
            go_wp2_with fail
            go_region_held3 (fun w' => w'.cell? ⟨0, 0, none⟩ = some (.slice (some a0) 5 c0) ∧ w'.cell? (a0.add k) = some (.string ⟨s.toArray⟩)) (go_keep) (first | (go_at_call 25; refine Calls.mono (HPX.out _ (by first | exact Below.refl _ _ | exact same_heap rfl rfl rfl rfl)) ?_; rintro e W0 ⟨rfl, hw0⟩; have hw0 := hw0.symm; subst hw0))
            go_wp2_with fail
            clear hwe g0 g1 g2 g3
            have hN0 : (0 : Int) < (tt.size : Int) - 1 := by omega
            refine (HPLI.out ((tt.size : Int) - 1) _ hN0 (by omega)).mono ?_
            rintro e W0 ⟨rfl, hw0⟩
            have hw0 := hw0.symm
            subst hw0
            have hat := pickN_lt li ((tt.size : Int) - 1) hN0
            obtain ⟨n2, hn2⟩ : ∃ n2 : Nat, n2 = 2 + pickN li ((tt.size : Int) - 1) := ⟨_, rfl⟩
            have hne : (2 : Int) + ((pickN li ((tt.size : Int) - 1) : Nat) : Int) = (n2 : Int) := by omega
            have hn3 : (2 : Int) ≤ (n2 : Int) := by omega
            have hn4 : (n2 : Int) ≤ (tt.size : Int) := by omega
            have hn5 : (0 : Int) ≤ (n2 : Int) := by omega
            have hx3 := HX1.out n2
            obtain ⟨t1, ht1⟩ : ∃ t1 : ByteArray, t1 = tt.extract 0 n2 := ⟨_, rfl⟩
            obtain ⟨t2, ht2⟩ : ∃ t2 : ByteArray, t2 = tt.extract n2 tt.size := ⟨_, rfl⟩
            have zt1 : t1.size ≤ 1000 := by rw [ht1, ByteArray.size_extract]; omega
            have zt2 : t2.size ≤ 1000 := by rw [ht2, ByteArray.size_extract]; omega
            have hs1 : tt.extract 0 n2 = t1 := ht1.symm
            have hs2 : tt.extract n2 tt.size = t2 := ht2.symm
            rw [hs1, hs2] at hx3
            have HXA : Hid (∀ W1, Below wr.heap.size wr W1 → Calls Tryz.prog 26 #[.string (t1 ++ ⟨#[10, 9, 13]⟩ ++ t2 ++ ⟨#[32]⟩), .string ⟨#[]⟩, .string ww] W1 fun e w' => e = .returned (.bool true) ∧ Below wr.heap.size wr w') := fun W1 h1 => hx3 W1 (by omega) (by omega) h1
            generalize pickN li ((tt.size : Int) - 1) = pk at *
            clear hx3 ht1 ht2 hn2 hat hN0 HX1
            have g0 : ∀ W : World, (Op.stringOp .add (t1) ⟨#[10, 9, 13]⟩).run Tryz.prog W = .ok (.string (t1 ++ ⟨#[10, 9, 13]⟩)) W := fun W => run_string_add_sum W _ _ (by (try simp only [ByteArray.size_append]); omega)
            have g1 : ∀ W : World, (Op.stringOp .add (t1 ++ ⟨#[10, 9, 13]⟩) t2).run Tryz.prog W = .ok (.string (t1 ++ ⟨#[10, 9, 13]⟩ ++ t2)) W := fun W => run_string_add_sum W _ _ (by (try simp only [ByteArray.size_append]); omega)
            have g2 : ∀ W : World, (Op.stringOp .add (t1 ++ ⟨#[10, 9, 13]⟩ ++ t2) ⟨#[32]⟩).run Tryz.prog W = .ok (.string (t1 ++ ⟨#[10, 9, 13]⟩ ++ t2 ++ ⟨#[32]⟩)) W := fun W => run_string_add_sum W _ _ (by (try simp only [ByteArray.size_append]); omega)
            go_wp2_with fail
            go_region_with fail
            go_wp2_with fail
            refine (HPP.out _).mono ?_
            rintro e W0 ⟨rfl, hw0⟩
            have hw0 := hw0.symm
            subst hw0
            clear e1 e3 f1 f3 g0 g1
            go_wp2_with fail
            refine Calls.mono (HDG.out _ (by exact same_heap rfl rfl rfl rfl)) ?_
            rintro e v1 ⟨rfl, b1⟩
            have HV1 : Hid (Below wr.heap.size wr v1) := b1
            obtain ⟨f1, f3⟩ := HPW2.out v1 b1
            clear b1
            have g9 : ∀ W : World, (Op.stringOp .add (⟨#[58]⟩) dg).run Tryz.prog W = .ok (.string (⟨#[58]⟩ ++ dg)) W := fun W => run_string_add_sum W _ _ (by (try simp only [ByteArray.size_append]); omega)
            rcases HEQ.out with ⟨h1, h2⟩ | ⟨h1, h2⟩
            · subst h1
              subst h2
              go_wp2_with fail
              go_region_held3 (fun w' => w'.cell? ⟨1, 0, none⟩ = some (.slice (some a5) 5 c5) ∧ w'.cell? (a5.add k) = some (.string ⟨pt.toArray⟩)) (go_keep) (first | (go_at_call 17; refine Calls.mono (HDG.out _ (by first | exact HV1.out | exact HV1.out.trans (same_heap rfl rfl rfl rfl))) ?_; rintro e v2 ⟨rfl, b2⟩; have HV2 : Hid (Below wr.heap.size wr v2) := b2; clear b2; obtain ⟨k1, k3⟩ := HPW2.out v2 HV2.out))
              have g0 : ∀ W : World, (Op.stringOp .add (t1 ++ ⟨#[10, 9, 13]⟩ ++ t2) ⟨#[32]⟩).run Tryz.prog W = .ok (.string (t1 ++ ⟨#[10, 9, 13]⟩ ++ t2 ++ ⟨#[32]⟩)) W := fun W => run_string_add_sum W _ _ (by (try simp only [ByteArray.size_append]); omega)
              go_wp2_with fail
              refine Calls.mono (HXA.out _ (by first | exact HV2.out | exact HV2.out.trans (same_heap rfl rfl rfl rfl))) ?_
              rintro e v3 ⟨rfl, b3⟩
              have HV3 : Hid (Below wr.heap.size wr v3) := b3
              obtain ⟨e1, e3⟩ := HSW.out v3 b3
              clear b3 g0
              have g0 : ∀ W : World, (Op.stringOp .add (⟨s.toArray⟩) ⟨#[58, 47, 47, 117, 59, 118, 58, 112, 64, 113, 64]⟩).run Tryz.prog W = .ok (.string (⟨s.toArray⟩ ++ ⟨#[58, 47, 47, 117, 59, 118, 58, 112, 64, 113, 64]⟩)) W := fun W => run_string_add_sum W _ _ (by (try simp only [ByteArray.size_append]); omega)
              have g1 : ∀ W : World, (Op.stringOp .add (⟨s.toArray⟩ ++ ⟨#[58, 47, 47, 117, 59, 118, 58, 112, 64, 113, 64]⟩) hb).run Tryz.prog W = .ok (.string (⟨s.toArray⟩ ++ ⟨#[58, 47, 47, 117, 59, 118, 58, 112, 64, 113, 64]⟩ ++ hb)) W := fun W => run_string_add_sum W _ _ (by (try simp only [ByteArray.size_append]); omega)
              have g2 : ∀ W : World, (Op.stringOp .add (⟨s.toArray⟩ ++ ⟨#[58, 47, 47, 117, 59, 118, 58, 112, 64, 113, 64]⟩ ++ hb) ⟨#[58]⟩).run Tryz.prog W = .ok (.string (⟨s.toArray⟩ ++ ⟨#[58, 47, 47, 117, 59, 118, 58, 112, 64, 113, 64]⟩ ++ hb ++ ⟨#[58]⟩)) W := fun W => run_string_add_sum W _ _ (by (try simp only [ByteArray.size_append]); omega)
              have g3 : ∀ W : World, (Op.stringOp .add (⟨s.toArray⟩ ++ ⟨#[58, 47, 47, 117, 59, 118, 58, 112, 64, 113, 64]⟩ ++ hb ++ ⟨#[58]⟩) ⟨#[48, 48, 48]⟩).run Tryz.prog W = .ok (.string (⟨s.toArray⟩ ++ ⟨#[58, 47, 47, 117, 59, 118, 58, 112, 64, 113, 64]⟩ ++ hb ++ ⟨#[58]⟩ ++ ⟨#[48, 48, 48]⟩)) W := fun W => run_string_add_sum W _ _ (by (try simp only [ByteArray.size_append]); omega)
              have g4 : ∀ W : World, (Op.stringOp .add (⟨s.toArray⟩ ++ ⟨#[58, 47, 47, 117, 59, 118, 58, 112, 64, 113, 64]⟩ ++ hb ++ ⟨#[58]⟩ ++ ⟨#[48, 48, 48]⟩) ⟨pt.toArray⟩).run Tryz.prog W = .ok (.string (⟨s.toArray⟩ ++ ⟨#[58, 47, 47, 117, 59, 118, 58, 112, 64, 113, 64]⟩ ++ hb ++ ⟨#[58]⟩ ++ ⟨#[48, 48, 48]⟩ ++ ⟨pt.toArray⟩)) W := fun W => run_string_add_sum W _ _ (by (try simp only [ByteArray.size_append]); omega)
              have g5 : ∀ W : World, (Op.stringOp .add (⟨s.toArray⟩ ++ ⟨#[58, 47, 47, 117, 59, 118, 58, 112, 64, 113, 64]⟩ ++ hb ++ ⟨#[58]⟩ ++ ⟨#[48, 48, 48]⟩ ++ ⟨pt.toArray⟩) ⟨#[63, 97, 39, 98, 34, 99, 35, 100, 96, 101]⟩).run Tryz.prog W = .ok (.string (⟨s.toArray⟩ ++ ⟨#[58, 47, 47, 117, 59, 118, 58, 112, 64, 113, 64]⟩ ++ hb ++ ⟨#[58]⟩ ++ ⟨#[48, 48, 48]⟩ ++ ⟨pt.toArray⟩ ++ ⟨#[63, 97, 39, 98, 34, 99, 35, 100, 96, 101]⟩)) W := fun W => run_string_add_sum W _ _ (by (try simp only [ByteArray.size_append]); omega)
              have g6 : ∀ W : World, (Op.stringOp .add (⟨s.toArray⟩) ⟨#[58, 47, 47, 117, 37, 51, 66, 118, 58, 112, 37, 52, 48, 113, 64]⟩).run Tryz.prog W = .ok (.string (⟨s.toArray⟩ ++ ⟨#[58, 47, 47, 117, 37, 51, 66, 118, 58, 112, 37, 52, 48, 113, 64]⟩)) W := fun W => run_string_add_sum W _ _ (by (try simp only [ByteArray.size_append]); omega)
              have g7 : ∀ W : World, (Op.stringOp .add (⟨s.toArray⟩ ++ ⟨#[58, 47, 47, 117, 37, 51, 66, 118, 58, 112, 37, 52, 48, 113, 64]⟩) hb).run Tryz.prog W = .ok (.string (⟨s.toArray⟩ ++ ⟨#[58, 47, 47, 117, 37, 51, 66, 118, 58, 112, 37, 52, 48, 113, 64]⟩ ++ hb)) W := fun W => run_string_add_sum W _ _ (by (try simp only [ByteArray.size_append]); omega)
              have g8 : ∀ W : World, (Op.stringOp .add (⟨s.toArray⟩ ++ ⟨#[58, 47, 47, 117, 37, 51, 66, 118, 58, 112, 37, 52, 48, 113, 64]⟩ ++ hb) ⟨#[]⟩).run Tryz.prog W = .ok (.string (⟨s.toArray⟩ ++ ⟨#[58, 47, 47, 117, 37, 51, 66, 118, 58, 112, 37, 52, 48, 113, 64]⟩ ++ hb ++ ⟨#[]⟩)) W := fun W => run_string_add_sum W _ _ (by (try simp only [ByteArray.size_append]); omega)
              have g9 : ∀ W : World, (Op.stringOp .add (⟨s.toArray⟩ ++ ⟨#[58, 47, 47, 117, 37, 51, 66, 118, 58, 112, 37, 52, 48, 113, 64]⟩ ++ hb ++ ⟨#[]⟩) ⟨#[47, 63, 97, 37, 50, 55, 98, 37, 50, 50, 99, 35, 100, 37, 54, 48, 101]⟩).run Tryz.prog W = .ok (.string (⟨s.toArray⟩ ++ ⟨#[58, 47, 47, 117, 37, 51, 66, 118, 58, 112, 37, 52, 48, 113, 64]⟩ ++ hb ++ ⟨#[]⟩ ++ ⟨#[47, 63, 97, 37, 50, 55, 98, 37, 50, 50, 99, 35, 100, 37, 54, 48, 101]⟩)) W := fun W => run_string_add_sum W _ _ (by (try simp only [ByteArray.size_append]); omega)
              go_wp2_with fail
              go_region_held3 (fun w' => w'.cell? ⟨0, 0, none⟩ = some (.slice (some a0) 5 c0) ∧ w'.cell? (a0.add k) = some (.string ⟨s.toArray⟩)) (go_keep) (first | (go_at_call 17; refine Calls.mono (HDG.out _ (by first | exact HV3.out | exact HV3.out.trans (same_heap rfl rfl rfl rfl))) ?_; rintro e v4 ⟨rfl, b4⟩; have HV4 : Hid (Below wr.heap.size wr v4) := b4; clear b4; obtain ⟨j1, j3⟩ := HSW.out v4 HV4.out) | (go_at_call 26; refine Calls.mono (HX2.out _ (by first | exact HV4.out | exact HV4.out.trans (same_heap rfl rfl rfl rfl))) ?_; rintro e v5 ⟨rfl, b5⟩; have HV5 : Hid (Below wr.heap.size wr v5) := b5; clear b5; obtain ⟨i1, i3⟩ := HSW.out v5 HV5.out))
              clear g0 g1 g2 g3 g4 g5 g6 g7 g8 g9
              have hwa := HWA.out
              have g0 : ∀ W : World, (Op.stringOp .add (⟨s.toArray⟩) ⟨#[58, 47, 47]⟩).run Tryz.prog W = .ok (.string (⟨s.toArray⟩ ++ ⟨#[58, 47, 47]⟩)) W := fun W => run_string_add_sum W _ _ (by (try simp only [ByteArray.size_append]); omega)
              have g1 : ∀ W : World, (Op.stringOp .add (⟨s.toArray⟩ ++ ⟨#[58, 47, 47]⟩) hb).run Tryz.prog W = .ok (.string (⟨s.toArray⟩ ++ ⟨#[58, 47, 47]⟩ ++ hb)) W := fun W => run_string_add_sum W _ _ (by (try simp only [ByteArray.size_append]); omega)
              have g2 : ∀ W : World, (Op.stringOp .add (⟨s.toArray⟩ ++ ⟨#[58, 47, 47]⟩ ++ hb) ⟨#[58]⟩).run Tryz.prog W = .ok (.string (⟨s.toArray⟩ ++ ⟨#[58, 47, 47]⟩ ++ hb ++ ⟨#[58]⟩)) W := fun W => run_string_add_sum W _ _ (by (try simp only [ByteArray.size_append]); omega)
              have g3 : ∀ W : World, (Op.stringOp .add (⟨s.toArray⟩ ++ ⟨#[58, 47, 47]⟩ ++ hb ++ ⟨#[58]⟩) dg2).run Tryz.prog W = .ok (.string (⟨s.toArray⟩ ++ ⟨#[58, 47, 47]⟩ ++ hb ++ ⟨#[58]⟩ ++ dg2)) W := fun W => run_string_add_sum W _ _ (by (try simp only [ByteArray.size_append]); omega)
              go_wp2_with fail
              go_region_held3 (fun w' => w'.cell? ⟨0, 0, none⟩ = some (.slice (some a0) 5 c0) ∧ w'.cell? (a0.add k) = some (.string ⟨s.toArray⟩)) (go_keep) (first | (go_at_call 17; refine Calls.mono (HDG2.out _ (by first | exact HV5.out | exact HV5.out.trans (same_heap rfl rfl rfl rfl))) ?_; rintro e v6 ⟨rfl, b6⟩; have HV6 : Hid (Below wr.heap.size wr v6) := b6; clear b6; obtain ⟨l1, l3⟩ := HSW.out v6 HV6.out) | (go_at_call 27; refine Calls.mono (HX3.out _ (by first | exact HV6.out | exact HV6.out.trans (same_heap rfl rfl rfl rfl))) ?_; rintro e v7 ⟨rfl, b7⟩; have HV7 : Hid (Below wr.heap.size wr v7) := b7; clear b7; obtain ⟨m1, m3⟩ := HSW.out v7 HV7.out))
              clear hwa g0 g1 g2 g3
              have g0 : ∀ W : World, (Op.stringOp .add (⟨s.toArray⟩) ⟨#[58, 47, 47]⟩).run Tryz.prog W = .ok (.string (⟨s.toArray⟩ ++ ⟨#[58, 47, 47]⟩)) W := fun W => run_string_add_sum W _ _ (by (try simp only [ByteArray.size_append]); omega)
              go_wp2_with fail
              refine Calls.mono (HX4.out _ (by first | exact HV7.out | exact HV7.out.trans (same_heap rfl rfl rfl rfl))) ?_
              rintro e v8 ⟨rfl, b8⟩
              have HV8 : Hid (Below wr.heap.size wr v8) := b8
              obtain ⟨n1, n3⟩ := HSW.out v8 b8
              clear b8 g0
              have g0 : ∀ W : World, (Op.stringOp .add (⟨s.toArray⟩) ⟨#[58, 47, 47, 117, 64]⟩).run Tryz.prog W = .ok (.string (⟨s.toArray⟩ ++ ⟨#[58, 47, 47, 117, 64]⟩)) W := fun W => run_string_add_sum W _ _ (by (try simp only [ByteArray.size_append]); omega)
              go_wp2_with fail
              refine Calls.mono (HX5.out _ (by first | exact HV8.out | exact HV8.out.trans (same_heap rfl rfl rfl rfl))) ?_
              rintro e v9 ⟨rfl, b9⟩
              have HV9 : Hid (Below wr.heap.size wr v9) := b9
              clear b9 g0
              have g0 : ∀ W : World, (Op.stringOp .add (⟨#[120, 58]⟩) hb).run Tryz.prog W = .ok (.string (⟨#[120, 58]⟩ ++ hb)) W := fun W => run_string_add_sum W _ _ (by (try simp only [ByteArray.size_append]); omega)
              have g1 : ∀ W : World, (Op.stringOp .add (⟨#[120, 58]⟩ ++ hb) ⟨#[32, 121, 127]⟩).run Tryz.prog W = .ok (.string (⟨#[120, 58]⟩ ++ hb ++ ⟨#[32, 121, 127]⟩)) W := fun W => run_string_add_sum W _ _ (by (try simp only [ByteArray.size_append]); omega)
              have g2 : ∀ W : World, (Op.stringOp .add (⟨#[120, 58]⟩ ++ hb) ⟨#[37, 50, 48, 121, 37, 55, 70]⟩).run Tryz.prog W = .ok (.string (⟨#[120, 58]⟩ ++ hb ++ ⟨#[37, 50, 48, 121, 37, 55, 70]⟩)) W := fun W => run_string_add_sum W _ _ (by (try simp only [ByteArray.size_append]); omega)
              go_wp2_with fail
              refine Calls.mono (HX6.out _ (by first | exact HV9.out | exact HV9.out.trans (same_heap rfl rfl rfl rfl))) ?_
              rintro e v10 ⟨rfl, b10⟩
              have HV10 : Hid (Below wr.heap.size wr v10) := b10
              clear b10
              go_wp2_with fail
              go_ret
              exact ⟨rfl, HB6.out v10 HV10.out⟩
            · subst h2
              have h3 : ¬ dg.toList = (⟨pt.toArray⟩ : ByteArray).toList := fun e => h1 (ByteArray.ext (Array.toList_inj.1 (by rw [Lib.toList_data, Lib.toList_data] at e; exact e)))
              have h5 : ¬ dg.toList = pt := fun e => h3 (by rw [e, Lib.toList_data])
              have h4 : (dg.toList == pt) = false := by simpa using h5
              clear h3 h5
              go_wp2_with fail
              go_region_held3 (fun w' => w'.cell? ⟨1, 0, none⟩ = some (.slice (some a5) 5 c5) ∧ w'.cell? (a5.add k) = some (.string ⟨pt.toArray⟩)) (go_keep) (first | (go_at_call 17; refine Calls.mono (HDG.out _ (by first | exact HV1.out | exact HV1.out.trans (same_heap rfl rfl rfl rfl))) ?_; rintro e v2 ⟨rfl, b2⟩; have HV2 : Hid (Below wr.heap.size wr v2) := b2; clear b2; obtain ⟨k1, k3⟩ := HPW2.out v2 HV2.out))
              have g0 : ∀ W : World, (Op.stringOp .add (t1 ++ ⟨#[10, 9, 13]⟩ ++ t2) ⟨#[32]⟩).run Tryz.prog W = .ok (.string (t1 ++ ⟨#[10, 9, 13]⟩ ++ t2 ++ ⟨#[32]⟩)) W := fun W => run_string_add_sum W _ _ (by (try simp only [ByteArray.size_append]); omega)
              go_wp2_with fail
              refine Calls.mono (HXA.out _ (by first | exact HV2.out | exact HV2.out.trans (same_heap rfl rfl rfl rfl))) ?_
              rintro e v3 ⟨rfl, b3⟩
              have HV3 : Hid (Below wr.heap.size wr v3) := b3
              obtain ⟨e1, e3⟩ := HSW.out v3 b3
              clear b3 g0
              have g0 : ∀ W : World, (Op.stringOp .add (⟨s.toArray⟩) ⟨#[58, 47, 47, 117, 59, 118, 58, 112, 64, 113, 64]⟩).run Tryz.prog W = .ok (.string (⟨s.toArray⟩ ++ ⟨#[58, 47, 47, 117, 59, 118, 58, 112, 64, 113, 64]⟩)) W := fun W => run_string_add_sum W _ _ (by (try simp only [ByteArray.size_append]); omega)
              have g1 : ∀ W : World, (Op.stringOp .add (⟨s.toArray⟩ ++ ⟨#[58, 47, 47, 117, 59, 118, 58, 112, 64, 113, 64]⟩) hb).run Tryz.prog W = .ok (.string (⟨s.toArray⟩ ++ ⟨#[58, 47, 47, 117, 59, 118, 58, 112, 64, 113, 64]⟩ ++ hb)) W := fun W => run_string_add_sum W _ _ (by (try simp only [ByteArray.size_append]); omega)
              have g2 : ∀ W : World, (Op.stringOp .add (⟨s.toArray⟩ ++ ⟨#[58, 47, 47, 117, 59, 118, 58, 112, 64, 113, 64]⟩ ++ hb) ⟨#[58]⟩).run Tryz.prog W = .ok (.string (⟨s.toArray⟩ ++ ⟨#[58, 47, 47, 117, 59, 118, 58, 112, 64, 113, 64]⟩ ++ hb ++ ⟨#[58]⟩)) W := fun W => run_string_add_sum W _ _ (by (try simp only [ByteArray.size_append]); omega)
              have g3 : ∀ W : World, (Op.stringOp .add (⟨s.toArray⟩ ++ ⟨#[58, 47, 47, 117, 59, 118, 58, 112, 64, 113, 64]⟩ ++ hb ++ ⟨#[58]⟩) ⟨#[48, 48, 48]⟩).run Tryz.prog W = .ok (.string (⟨s.toArray⟩ ++ ⟨#[58, 47, 47, 117, 59, 118, 58, 112, 64, 113, 64]⟩ ++ hb ++ ⟨#[58]⟩ ++ ⟨#[48, 48, 48]⟩)) W := fun W => run_string_add_sum W _ _ (by (try simp only [ByteArray.size_append]); omega)
              have g4 : ∀ W : World, (Op.stringOp .add (⟨s.toArray⟩ ++ ⟨#[58, 47, 47, 117, 59, 118, 58, 112, 64, 113, 64]⟩ ++ hb ++ ⟨#[58]⟩ ++ ⟨#[48, 48, 48]⟩) dg).run Tryz.prog W = .ok (.string (⟨s.toArray⟩ ++ ⟨#[58, 47, 47, 117, 59, 118, 58, 112, 64, 113, 64]⟩ ++ hb ++ ⟨#[58]⟩ ++ ⟨#[48, 48, 48]⟩ ++ dg)) W := fun W => run_string_add_sum W _ _ (by (try simp only [ByteArray.size_append]); omega)
              have g5 : ∀ W : World, (Op.stringOp .add (⟨s.toArray⟩ ++ ⟨#[58, 47, 47, 117, 59, 118, 58, 112, 64, 113, 64]⟩ ++ hb ++ ⟨#[58]⟩ ++ ⟨#[48, 48, 48]⟩ ++ dg) ⟨#[63, 97, 39, 98, 34, 99, 35, 100, 96, 101]⟩).run Tryz.prog W = .ok (.string (⟨s.toArray⟩ ++ ⟨#[58, 47, 47, 117, 59, 118, 58, 112, 64, 113, 64]⟩ ++ hb ++ ⟨#[58]⟩ ++ ⟨#[48, 48, 48]⟩ ++ dg ++ ⟨#[63, 97, 39, 98, 34, 99, 35, 100, 96, 101]⟩)) W := fun W => run_string_add_sum W _ _ (by (try simp only [ByteArray.size_append]); omega)
              have g6 : ∀ W : World, (Op.stringOp .add (⟨s.toArray⟩) ⟨#[58, 47, 47, 117, 37, 51, 66, 118, 58, 112, 37, 52, 48, 113, 64]⟩).run Tryz.prog W = .ok (.string (⟨s.toArray⟩ ++ ⟨#[58, 47, 47, 117, 37, 51, 66, 118, 58, 112, 37, 52, 48, 113, 64]⟩)) W := fun W => run_string_add_sum W _ _ (by (try simp only [ByteArray.size_append]); omega)
              have g7 : ∀ W : World, (Op.stringOp .add (⟨s.toArray⟩ ++ ⟨#[58, 47, 47, 117, 37, 51, 66, 118, 58, 112, 37, 52, 48, 113, 64]⟩) hb).run Tryz.prog W = .ok (.string (⟨s.toArray⟩ ++ ⟨#[58, 47, 47, 117, 37, 51, 66, 118, 58, 112, 37, 52, 48, 113, 64]⟩ ++ hb)) W := fun W => run_string_add_sum W _ _ (by (try simp only [ByteArray.size_append]); omega)
              have g8 : ∀ W : World, (Op.stringOp .add (⟨s.toArray⟩ ++ ⟨#[58, 47, 47, 117, 37, 51, 66, 118, 58, 112, 37, 52, 48, 113, 64]⟩ ++ hb) (⟨#[58]⟩ ++ dg)).run Tryz.prog W = .ok (.string (⟨s.toArray⟩ ++ ⟨#[58, 47, 47, 117, 37, 51, 66, 118, 58, 112, 37, 52, 48, 113, 64]⟩ ++ hb ++ (⟨#[58]⟩ ++ dg))) W := fun W => run_string_add_sum W _ _ (by (try simp only [ByteArray.size_append]); omega)
              have g9 : ∀ W : World, (Op.stringOp .add (⟨s.toArray⟩ ++ ⟨#[58, 47, 47, 117, 37, 51, 66, 118, 58, 112, 37, 52, 48, 113, 64]⟩ ++ hb ++ (⟨#[58]⟩ ++ dg)) ⟨#[47, 63, 97, 37, 50, 55, 98, 37, 50, 50, 99, 35, 100, 37, 54, 48, 101]⟩).run Tryz.prog W = .ok (.string (⟨s.toArray⟩ ++ ⟨#[58, 47, 47, 117, 37, 51, 66, 118, 58, 112, 37, 52, 48, 113, 64]⟩ ++ hb ++ (⟨#[58]⟩ ++ dg) ++ ⟨#[47, 63, 97, 37, 50, 55, 98, 37, 50, 50, 99, 35, 100, 37, 54, 48, 101]⟩)) W := fun W => run_string_add_sum W _ _ (by (try simp only [ByteArray.size_append]); omega)
              go_wp2_with fail
              go_region_held3 (fun w' => w'.cell? ⟨0, 0, none⟩ = some (.slice (some a0) 5 c0) ∧ w'.cell? (a0.add k) = some (.string ⟨s.toArray⟩)) (go_keep) (first | (go_at_call 17; refine Calls.mono (HDG.out _ (by first | exact HV3.out | exact HV3.out.trans (same_heap rfl rfl rfl rfl))) ?_; rintro e v4 ⟨rfl, b4⟩; have HV4 : Hid (Below wr.heap.size wr v4) := b4; clear b4; obtain ⟨j1, j3⟩ := HSW.out v4 HV4.out) | (go_at_call 26; refine Calls.mono (HX2.out _ (by first | exact HV4.out | exact HV4.out.trans (same_heap rfl rfl rfl rfl))) ?_; rintro e v5 ⟨rfl, b5⟩; have HV5 : Hid (Below wr.heap.size wr v5) := b5; clear b5; obtain ⟨i1, i3⟩ := HSW.out v5 HV5.out))
              clear g0 g1 g2 g3 g4 g5 g6 g7 g8 g9
              have hwa := HWA.out
              have g0 : ∀ W : World, (Op.stringOp .add (⟨s.toArray⟩) ⟨#[58, 47, 47]⟩).run Tryz.prog W = .ok (.string (⟨s.toArray⟩ ++ ⟨#[58, 47, 47]⟩)) W := fun W => run_string_add_sum W _ _ (by (try simp only [ByteArray.size_append]); omega)
              have g1 : ∀ W : World, (Op.stringOp .add (⟨s.toArray⟩ ++ ⟨#[58, 47, 47]⟩) hb).run Tryz.prog W = .ok (.string (⟨s.toArray⟩ ++ ⟨#[58, 47, 47]⟩ ++ hb)) W := fun W => run_string_add_sum W _ _ (by (try simp only [ByteArray.size_append]); omega)
              have g2 : ∀ W : World, (Op.stringOp .add (⟨s.toArray⟩ ++ ⟨#[58, 47, 47]⟩ ++ hb) ⟨#[58]⟩).run Tryz.prog W = .ok (.string (⟨s.toArray⟩ ++ ⟨#[58, 47, 47]⟩ ++ hb ++ ⟨#[58]⟩)) W := fun W => run_string_add_sum W _ _ (by (try simp only [ByteArray.size_append]); omega)
              have g3 : ∀ W : World, (Op.stringOp .add (⟨s.toArray⟩ ++ ⟨#[58, 47, 47]⟩ ++ hb ++ ⟨#[58]⟩) dg2).run Tryz.prog W = .ok (.string (⟨s.toArray⟩ ++ ⟨#[58, 47, 47]⟩ ++ hb ++ ⟨#[58]⟩ ++ dg2)) W := fun W => run_string_add_sum W _ _ (by (try simp only [ByteArray.size_append]); omega)
              go_wp2_with fail
              go_region_held3 (fun w' => w'.cell? ⟨0, 0, none⟩ = some (.slice (some a0) 5 c0) ∧ w'.cell? (a0.add k) = some (.string ⟨s.toArray⟩)) (go_keep) (first | (go_at_call 17; refine Calls.mono (HDG2.out _ (by first | exact HV5.out | exact HV5.out.trans (same_heap rfl rfl rfl rfl))) ?_; rintro e v6 ⟨rfl, b6⟩; have HV6 : Hid (Below wr.heap.size wr v6) := b6; clear b6; obtain ⟨l1, l3⟩ := HSW.out v6 HV6.out) | (go_at_call 27; refine Calls.mono (HX3.out _ (by first | exact HV6.out | exact HV6.out.trans (same_heap rfl rfl rfl rfl))) ?_; rintro e v7 ⟨rfl, b7⟩; have HV7 : Hid (Below wr.heap.size wr v7) := b7; clear b7; obtain ⟨m1, m3⟩ := HSW.out v7 HV7.out))
              clear hwa g0 g1 g2 g3
              have g0 : ∀ W : World, (Op.stringOp .add (⟨s.toArray⟩) ⟨#[58, 47, 47]⟩).run Tryz.prog W = .ok (.string (⟨s.toArray⟩ ++ ⟨#[58, 47, 47]⟩)) W := fun W => run_string_add_sum W _ _ (by (try simp only [ByteArray.size_append]); omega)
              go_wp2_with fail
              refine Calls.mono (HX4.out _ (by first | exact HV7.out | exact HV7.out.trans (same_heap rfl rfl rfl rfl))) ?_
              rintro e v8 ⟨rfl, b8⟩
              have HV8 : Hid (Below wr.heap.size wr v8) := b8
              obtain ⟨n1, n3⟩ := HSW.out v8 b8
              clear b8 g0
              have g0 : ∀ W : World, (Op.stringOp .add (⟨s.toArray⟩) ⟨#[58, 47, 47, 117, 64]⟩).run Tryz.prog W = .ok (.string (⟨s.toArray⟩ ++ ⟨#[58, 47, 47, 117, 64]⟩)) W := fun W => run_string_add_sum W _ _ (by (try simp only [ByteArray.size_append]); omega)
              go_wp2_with fail
              refine Calls.mono (HX5.out _ (by first | exact HV8.out | exact HV8.out.trans (same_heap rfl rfl rfl rfl))) ?_
              rintro e v9 ⟨rfl, b9⟩
              have HV9 : Hid (Below wr.heap.size wr v9) := b9
              clear b9 g0
              have g0 : ∀ W : World, (Op.stringOp .add (⟨#[120, 58]⟩) hb).run Tryz.prog W = .ok (.string (⟨#[120, 58]⟩ ++ hb)) W := fun W => run_string_add_sum W _ _ (by (try simp only [ByteArray.size_append]); omega)
              have g1 : ∀ W : World, (Op.stringOp .add (⟨#[120, 58]⟩ ++ hb) ⟨#[32, 121, 127]⟩).run Tryz.prog W = .ok (.string (⟨#[120, 58]⟩ ++ hb ++ ⟨#[32, 121, 127]⟩)) W := fun W => run_string_add_sum W _ _ (by (try simp only [ByteArray.size_append]); omega)
              have g2 : ∀ W : World, (Op.stringOp .add (⟨#[120, 58]⟩ ++ hb) ⟨#[37, 50, 48, 121, 37, 55, 70]⟩).run Tryz.prog W = .ok (.string (⟨#[120, 58]⟩ ++ hb ++ ⟨#[37, 50, 48, 121, 37, 55, 70]⟩)) W := fun W => run_string_add_sum W _ _ (by (try simp only [ByteArray.size_append]); omega)
              go_wp2_with fail
              refine Calls.mono (HX6.out _ (by first | exact HV9.out | exact HV9.out.trans (same_heap rfl rfl rfl rfl))) ?_
              rintro e v10 ⟨rfl, b10⟩
              have HV10 : Hid (Below wr.heap.size wr v10) := b10
              clear b10
              go_wp2_with fail
              go_ret
              exact ⟨rfl, HB6.out v10 HV10.out⟩
          · have hwe := HWW.out.2 hl0
            obtain ⟨m, hm⟩ : ∃ m, ls.length = m + 1 := ⟨ls.length - 1, by omega⟩
            have hpa := HPA.out
            rw [hm] at hpa
            have HPX : Hid _ := hpa
            clear hpa hl0
            have g0 : ∀ W : World, (Op.stringOp .add (⟨s.toArray⟩) ⟨#[58, 47, 47]⟩).run Tryz.prog W = .ok (.string (⟨s.toArray⟩ ++ ⟨#[58, 47, 47]⟩)) W := fun W => run_string_add_sum W _ _ (by (try simp only [ByteArray.size_append]); omega)
            have g1 : ∀ W : World, (Op.stringOp .add (⟨s.toArray⟩ ++ ⟨#[58, 47, 47]⟩) hb).run Tryz.prog W = .ok (.string (⟨s.toArray⟩ ++ ⟨#[58, 47, 47]⟩ ++ hb)) W := fun W => run_string_add_sum W _ _ (by (try simp only [ByteArray.size_append]); omega)
            have g2 : ∀ W : World, (Op.stringOp .add (⟨s.toArray⟩ ++ ⟨#[58, 47, 47]⟩ ++ hb) pl).run Tryz.prog W = .ok (.string (⟨s.toArray⟩ ++ ⟨#[58, 47, 47]⟩ ++ hb ++ pl)) W := fun W => run_string_add_sum W _ _ (by (try simp only [ByteArray.size_append]); omega)
            go_wp2_with fail
            go_region_held3 (fun w' => w'.cell? ⟨0, 0, none⟩ = some (.slice (some a0) 5 c0) ∧ w'.cell? (a0.add k) = some (.string ⟨s.toArray⟩)) (go_keep) (first | (go_at_call 25; refine Calls.mono (HPX.out _ (by first | exact Below.refl _ _ | exact same_heap rfl rfl rfl rfl)) ?_; rintro e W0 ⟨rfl, hw0⟩; have hw0 := hw0.symm; subst hw0))
            clear hwe g0 g1 g2
            have hm0 : ¬ ((m : Int) + 1 = 0) := by omega
            go_wp2_with fail
            have hN0 : (0 : Int) < (tt.size : Int) - 1 := by omega
            refine (HPLI.out ((tt.size : Int) - 1) _ hN0 (by omega)).mono ?_
            rintro e W0 ⟨rfl, hw0⟩
            have hw0 := hw0.symm
            subst hw0
            have hat := pickN_lt li ((tt.size : Int) - 1) hN0
            obtain ⟨n2, hn2⟩ : ∃ n2 : Nat, n2 = 2 + pickN li ((tt.size : Int) - 1) := ⟨_, rfl⟩
            have hne : (2 : Int) + ((pickN li ((tt.size : Int) - 1) : Nat) : Int) = (n2 : Int) := by omega
            have hn3 : (2 : Int) ≤ (n2 : Int) := by omega
            have hn4 : (n2 : Int) ≤ (tt.size : Int) := by omega
            have hn5 : (0 : Int) ≤ (n2 : Int) := by omega
            have hx3 := HX1.out n2
            obtain ⟨t1, ht1⟩ : ∃ t1 : ByteArray, t1 = tt.extract 0 n2 := ⟨_, rfl⟩
            obtain ⟨t2, ht2⟩ : ∃ t2 : ByteArray, t2 = tt.extract n2 tt.size := ⟨_, rfl⟩
            have zt1 : t1.size ≤ 1000 := by rw [ht1, ByteArray.size_extract]; omega
            have zt2 : t2.size ≤ 1000 := by rw [ht2, ByteArray.size_extract]; omega
            have hs1 : tt.extract 0 n2 = t1 := ht1.symm
            have hs2 : tt.extract n2 tt.size = t2 := ht2.symm
            rw [hs1, hs2] at hx3
            have HXA : Hid (∀ W1, Below wr.heap.size wr W1 → Calls Tryz.prog 26 #[.string (t1 ++ ⟨#[10, 9, 13]⟩ ++ t2 ++ ⟨#[32]⟩), .string ⟨#[]⟩, .string ww] W1 fun e w' => e = .returned (.bool true) ∧ Below wr.heap.size wr w') := fun W1 h1 => hx3 W1 (by omega) (by omega) h1
            generalize pickN li ((tt.size : Int) - 1) = pk at *
            clear hx3 ht1 ht2 hn2 hat hN0 HX1
            have g0 : ∀ W : World, (Op.stringOp .add (t1) ⟨#[10, 9, 13]⟩).run Tryz.prog W = .ok (.string (t1 ++ ⟨#[10, 9, 13]⟩)) W := fun W => run_string_add_sum W _ _ (by (try simp only [ByteArray.size_append]); omega)
            have g1 : ∀ W : World, (Op.stringOp .add (t1 ++ ⟨#[10, 9, 13]⟩) t2).run Tryz.prog W = .ok (.string (t1 ++ ⟨#[10, 9, 13]⟩ ++ t2)) W := fun W => run_string_add_sum W _ _ (by (try simp only [ByteArray.size_append]); omega)
            have g2 : ∀ W : World, (Op.stringOp .add (t1 ++ ⟨#[10, 9, 13]⟩ ++ t2) ⟨#[32]⟩).run Tryz.prog W = .ok (.string (t1 ++ ⟨#[10, 9, 13]⟩ ++ t2 ++ ⟨#[32]⟩)) W := fun W => run_string_add_sum W _ _ (by (try simp only [ByteArray.size_append]); omega)
            go_wp2_with fail
            go_region_with fail
            go_wp2_with fail
            refine (HPP.out _).mono ?_
            rintro e W0 ⟨rfl, hw0⟩
            have hw0 := hw0.symm
            subst hw0
            clear e1 e3 f1 f3 g0 g1
            go_wp2_with fail
            refine Calls.mono (HDG.out _ (by exact same_heap rfl rfl rfl rfl)) ?_
            rintro e v1 ⟨rfl, b1⟩
            have HV1 : Hid (Below wr.heap.size wr v1) := b1
            obtain ⟨f1, f3⟩ := HPW2.out v1 b1
            clear b1
            have g9 : ∀ W : World, (Op.stringOp .add (⟨#[58]⟩) dg).run Tryz.prog W = .ok (.string (⟨#[58]⟩ ++ dg)) W := fun W => run_string_add_sum W _ _ (by (try simp only [ByteArray.size_append]); omega)
            rcases HEQ.out with ⟨h1, h2⟩ | ⟨h1, h2⟩
            · subst h1
              subst h2
              go_wp2_with fail
              go_region_held3 (fun w' => w'.cell? ⟨1, 0, none⟩ = some (.slice (some a5) 5 c5) ∧ w'.cell? (a5.add k) = some (.string ⟨pt.toArray⟩)) (go_keep) (first | (go_at_call 17; refine Calls.mono (HDG.out _ (by first | exact HV1.out | exact HV1.out.trans (same_heap rfl rfl rfl rfl))) ?_; rintro e v2 ⟨rfl, b2⟩; have HV2 : Hid (Below wr.heap.size wr v2) := b2; clear b2; obtain ⟨k1, k3⟩ := HPW2.out v2 HV2.out))
              have g0 : ∀ W : World, (Op.stringOp .add (t1 ++ ⟨#[10, 9, 13]⟩ ++ t2) ⟨#[32]⟩).run Tryz.prog W = .ok (.string (t1 ++ ⟨#[10, 9, 13]⟩ ++ t2 ++ ⟨#[32]⟩)) W := fun W => run_string_add_sum W _ _ (by (try simp only [ByteArray.size_append]); omega)
              go_wp2_with fail
              refine Calls.mono (HXA.out _ (by first | exact HV2.out | exact HV2.out.trans (same_heap rfl rfl rfl rfl))) ?_
              rintro e v3 ⟨rfl, b3⟩
              have HV3 : Hid (Below wr.heap.size wr v3) := b3
              obtain ⟨e1, e3⟩ := HSW.out v3 b3
              clear b3 g0
              have g0 : ∀ W : World, (Op.stringOp .add (⟨s.toArray⟩) ⟨#[58, 47, 47, 117, 59, 118, 58, 112, 64, 113, 64]⟩).run Tryz.prog W = .ok (.string (⟨s.toArray⟩ ++ ⟨#[58, 47, 47, 117, 59, 118, 58, 112, 64, 113, 64]⟩)) W := fun W => run_string_add_sum W _ _ (by (try simp only [ByteArray.size_append]); omega)
              have g1 : ∀ W : World, (Op.stringOp .add (⟨s.toArray⟩ ++ ⟨#[58, 47, 47, 117, 59, 118, 58, 112, 64, 113, 64]⟩) hb).run Tryz.prog W = .ok (.string (⟨s.toArray⟩ ++ ⟨#[58, 47, 47, 117, 59, 118, 58, 112, 64, 113, 64]⟩ ++ hb)) W := fun W => run_string_add_sum W _ _ (by (try simp only [ByteArray.size_append]); omega)
              have g2 : ∀ W : World, (Op.stringOp .add (⟨s.toArray⟩ ++ ⟨#[58, 47, 47, 117, 59, 118, 58, 112, 64, 113, 64]⟩ ++ hb) ⟨#[58]⟩).run Tryz.prog W = .ok (.string (⟨s.toArray⟩ ++ ⟨#[58, 47, 47, 117, 59, 118, 58, 112, 64, 113, 64]⟩ ++ hb ++ ⟨#[58]⟩)) W := fun W => run_string_add_sum W _ _ (by (try simp only [ByteArray.size_append]); omega)
              have g3 : ∀ W : World, (Op.stringOp .add (⟨s.toArray⟩ ++ ⟨#[58, 47, 47, 117, 59, 118, 58, 112, 64, 113, 64]⟩ ++ hb ++ ⟨#[58]⟩) ⟨#[48, 48, 48]⟩).run Tryz.prog W = .ok (.string (⟨s.toArray⟩ ++ ⟨#[58, 47, 47, 117, 59, 118, 58, 112, 64, 113, 64]⟩ ++ hb ++ ⟨#[58]⟩ ++ ⟨#[48, 48, 48]⟩)) W := fun W => run_string_add_sum W _ _ (by (try simp only [ByteArray.size_append]); omega)
              have g4 : ∀ W : World, (Op.stringOp .add (⟨s.toArray⟩ ++ ⟨#[58, 47, 47, 117, 59, 118, 58, 112, 64, 113, 64]⟩ ++ hb ++ ⟨#[58]⟩ ++ ⟨#[48, 48, 48]⟩) ⟨pt.toArray⟩).run Tryz.prog W = .ok (.string (⟨s.toArray⟩ ++ ⟨#[58, 47, 47, 117, 59, 118, 58, 112, 64, 113, 64]⟩ ++ hb ++ ⟨#[58]⟩ ++ ⟨#[48, 48, 48]⟩ ++ ⟨pt.toArray⟩)) W := fun W => run_string_add_sum W _ _ (by (try simp only [ByteArray.size_append]); omega)
              have g5 : ∀ W : World, (Op.stringOp .add (⟨s.toArray⟩ ++ ⟨#[58, 47, 47, 117, 59, 118, 58, 112, 64, 113, 64]⟩ ++ hb ++ ⟨#[58]⟩ ++ ⟨#[48, 48, 48]⟩ ++ ⟨pt.toArray⟩) ⟨#[63, 97, 39, 98, 34, 99, 35, 100, 96, 101]⟩).run Tryz.prog W = .ok (.string (⟨s.toArray⟩ ++ ⟨#[58, 47, 47, 117, 59, 118, 58, 112, 64, 113, 64]⟩ ++ hb ++ ⟨#[58]⟩ ++ ⟨#[48, 48, 48]⟩ ++ ⟨pt.toArray⟩ ++ ⟨#[63, 97, 39, 98, 34, 99, 35, 100, 96, 101]⟩)) W := fun W => run_string_add_sum W _ _ (by (try simp only [ByteArray.size_append]); omega)
              have g6 : ∀ W : World, (Op.stringOp .add (⟨s.toArray⟩) ⟨#[58, 47, 47, 117, 37, 51, 66, 118, 58, 112, 37, 52, 48, 113, 64]⟩).run Tryz.prog W = .ok (.string (⟨s.toArray⟩ ++ ⟨#[58, 47, 47, 117, 37, 51, 66, 118, 58, 112, 37, 52, 48, 113, 64]⟩)) W := fun W => run_string_add_sum W _ _ (by (try simp only [ByteArray.size_append]); omega)
              have g7 : ∀ W : World, (Op.stringOp .add (⟨s.toArray⟩ ++ ⟨#[58, 47, 47, 117, 37, 51, 66, 118, 58, 112, 37, 52, 48, 113, 64]⟩) hb).run Tryz.prog W = .ok (.string (⟨s.toArray⟩ ++ ⟨#[58, 47, 47, 117, 37, 51, 66, 118, 58, 112, 37, 52, 48, 113, 64]⟩ ++ hb)) W := fun W => run_string_add_sum W _ _ (by (try simp only [ByteArray.size_append]); omega)
              have g8 : ∀ W : World, (Op.stringOp .add (⟨s.toArray⟩ ++ ⟨#[58, 47, 47, 117, 37, 51, 66, 118, 58, 112, 37, 52, 48, 113, 64]⟩ ++ hb) ⟨#[]⟩).run Tryz.prog W = .ok (.string (⟨s.toArray⟩ ++ ⟨#[58, 47, 47, 117, 37, 51, 66, 118, 58, 112, 37, 52, 48, 113, 64]⟩ ++ hb ++ ⟨#[]⟩)) W := fun W => run_string_add_sum W _ _ (by (try simp only [ByteArray.size_append]); omega)
              have g9 : ∀ W : World, (Op.stringOp .add (⟨s.toArray⟩ ++ ⟨#[58, 47, 47, 117, 37, 51, 66, 118, 58, 112, 37, 52, 48, 113, 64]⟩ ++ hb ++ ⟨#[]⟩) ⟨#[47, 63, 97, 37, 50, 55, 98, 37, 50, 50, 99, 35, 100, 37, 54, 48, 101]⟩).run Tryz.prog W = .ok (.string (⟨s.toArray⟩ ++ ⟨#[58, 47, 47, 117, 37, 51, 66, 118, 58, 112, 37, 52, 48, 113, 64]⟩ ++ hb ++ ⟨#[]⟩ ++ ⟨#[47, 63, 97, 37, 50, 55, 98, 37, 50, 50, 99, 35, 100, 37, 54, 48, 101]⟩)) W := fun W => run_string_add_sum W _ _ (by (try simp only [ByteArray.size_append]); omega)
              go_wp2_with fail
              go_region_held3 (fun w' => w'.cell? ⟨0, 0, none⟩ = some (.slice (some a0) 5 c0) ∧ w'.cell? (a0.add k) = some (.string ⟨s.toArray⟩)) (go_keep) (first | (go_at_call 17; refine Calls.mono (HDG.out _ (by first | exact HV3.out | exact HV3.out.trans (same_heap rfl rfl rfl rfl))) ?_; rintro e v4 ⟨rfl, b4⟩; have HV4 : Hid (Below wr.heap.size wr v4) := b4; clear b4; obtain ⟨j1, j3⟩ := HSW.out v4 HV4.out) | (go_at_call 26; refine Calls.mono (HX2.out _ (by first | exact HV4.out | exact HV4.out.trans (same_heap rfl rfl rfl rfl))) ?_; rintro e v5 ⟨rfl, b5⟩; have HV5 : Hid (Below wr.heap.size wr v5) := b5; clear b5; obtain ⟨i1, i3⟩ := HSW.out v5 HV5.out))
              clear g0 g1 g2 g3 g4 g5 g6 g7 g8 g9
              have hwa := HWA.out
              have g0 : ∀ W : World, (Op.stringOp .add (⟨s.toArray⟩) ⟨#[58, 47, 47]⟩).run Tryz.prog W = .ok (.string (⟨s.toArray⟩ ++ ⟨#[58, 47, 47]⟩)) W := fun W => run_string_add_sum W _ _ (by (try simp only [ByteArray.size_append]); omega)
              have g1 : ∀ W : World, (Op.stringOp .add (⟨s.toArray⟩ ++ ⟨#[58, 47, 47]⟩) hb).run Tryz.prog W = .ok (.string (⟨s.toArray⟩ ++ ⟨#[58, 47, 47]⟩ ++ hb)) W := fun W => run_string_add_sum W _ _ (by (try simp only [ByteArray.size_append]); omega)
              have g2 : ∀ W : World, (Op.stringOp .add (⟨s.toArray⟩ ++ ⟨#[58, 47, 47]⟩ ++ hb) ⟨#[58]⟩).run Tryz.prog W = .ok (.string (⟨s.toArray⟩ ++ ⟨#[58, 47, 47]⟩ ++ hb ++ ⟨#[58]⟩)) W := fun W => run_string_add_sum W _ _ (by (try simp only [ByteArray.size_append]); omega)
              have g3 : ∀ W : World, (Op.stringOp .add (⟨s.toArray⟩ ++ ⟨#[58, 47, 47]⟩ ++ hb ++ ⟨#[58]⟩) dg2).run Tryz.prog W = .ok (.string (⟨s.toArray⟩ ++ ⟨#[58, 47, 47]⟩ ++ hb ++ ⟨#[58]⟩ ++ dg2)) W := fun W => run_string_add_sum W _ _ (by (try simp only [ByteArray.size_append]); omega)
              go_wp2_with fail
              go_region_held3 (fun w' => w'.cell? ⟨0, 0, none⟩ = some (.slice (some a0) 5 c0) ∧ w'.cell? (a0.add k) = some (.string ⟨s.toArray⟩)) (go_keep) (first | (go_at_call 17; refine Calls.mono (HDG2.out _ (by first | exact HV5.out | exact HV5.out.trans (same_heap rfl rfl rfl rfl))) ?_; rintro e v6 ⟨rfl, b6⟩; have HV6 : Hid (Below wr.heap.size wr v6) := b6; clear b6; obtain ⟨l1, l3⟩ := HSW.out v6 HV6.out) | (go_at_call 27; refine Calls.mono (HX3.out _ (by first | exact HV6.out | exact HV6.out.trans (same_heap rfl rfl rfl rfl))) ?_; rintro e v7 ⟨rfl, b7⟩; have HV7 : Hid (Below wr.heap.size wr v7) := b7; clear b7; obtain ⟨m1, m3⟩ := HSW.out v7 HV7.out))
              clear hwa g0 g1 g2 g3
              have g0 : ∀ W : World, (Op.stringOp .add (⟨s.toArray⟩) ⟨#[58, 47, 47]⟩).run Tryz.prog W = .ok (.string (⟨s.toArray⟩ ++ ⟨#[58, 47, 47]⟩)) W := fun W => run_string_add_sum W _ _ (by (try simp only [ByteArray.size_append]); omega)
              go_wp2_with fail
              refine Calls.mono (HX4.out _ (by first | exact HV7.out | exact HV7.out.trans (same_heap rfl rfl rfl rfl))) ?_
              rintro e v8 ⟨rfl, b8⟩
              have HV8 : Hid (Below wr.heap.size wr v8) := b8
              obtain ⟨n1, n3⟩ := HSW.out v8 b8
              clear b8 g0
              have g0 : ∀ W : World, (Op.stringOp .add (⟨s.toArray⟩) ⟨#[58, 47, 47, 117, 64]⟩).run Tryz.prog W = .ok (.string (⟨s.toArray⟩ ++ ⟨#[58, 47, 47, 117, 64]⟩)) W := fun W => run_string_add_sum W _ _ (by (try simp only [ByteArray.size_append]); omega)
              go_wp2_with fail
              refine Calls.mono (HX5.out _ (by first | exact HV8.out | exact HV8.out.trans (same_heap rfl rfl rfl rfl))) ?_
              rintro e v9 ⟨rfl, b9⟩
              have HV9 : Hid (Below wr.heap.size wr v9) := b9
              clear b9 g0
              have g0 : ∀ W : World, (Op.stringOp .add (⟨#[120, 58]⟩) hb).run Tryz.prog W = .ok (.string (⟨#[120, 58]⟩ ++ hb)) W := fun W => run_string_add_sum W _ _ (by (try simp only [ByteArray.size_append]); omega)
              have g1 : ∀ W : World, (Op.stringOp .add (⟨#[120, 58]⟩ ++ hb) ⟨#[32, 121, 127]⟩).run Tryz.prog W = .ok (.string (⟨#[120, 58]⟩ ++ hb ++ ⟨#[32, 121, 127]⟩)) W := fun W => run_string_add_sum W _ _ (by (try simp only [ByteArray.size_append]); omega)
              have g2 : ∀ W : World, (Op.stringOp .add (⟨#[120, 58]⟩ ++ hb) ⟨#[37, 50, 48, 121, 37, 55, 70]⟩).run Tryz.prog W = .ok (.string (⟨#[120, 58]⟩ ++ hb ++ ⟨#[37, 50, 48, 121, 37, 55, 70]⟩)) W := fun W => run_string_add_sum W _ _ (by (try simp only [ByteArray.size_append]); omega)
              go_wp2_with fail
              refine Calls.mono (HX6.out _ (by first | exact HV9.out | exact HV9.out.trans (same_heap rfl rfl rfl rfl))) ?_
              rintro e v10 ⟨rfl, b10⟩
              have HV10 : Hid (Below wr.heap.size wr v10) := b10
              clear b10
              go_wp2_with fail
              go_ret
              exact ⟨rfl, HB6.out v10 HV10.out⟩
            · subst h2
              have h3 : ¬ dg.toList = (⟨pt.toArray⟩ : ByteArray).toList := fun e => h1 (ByteArray.ext (Array.toList_inj.1 (by rw [Lib.toList_data, Lib.toList_data] at e; exact e)))
              have h5 : ¬ dg.toList = pt := fun e => h3 (by rw [e, Lib.toList_data])
              have h4 : (dg.toList == pt) = false := by simpa using h5
              clear h3 h5
              go_wp2_with fail
              go_region_held3 (fun w' => w'.cell? ⟨1, 0, none⟩ = some (.slice (some a5) 5 c5) ∧ w'.cell? (a5.add k) = some (.string ⟨pt.toArray⟩)) (go_keep) (first | (go_at_call 17; refine Calls.mono (HDG.out _ (by first | exact HV1.out | exact HV1.out.trans (same_heap rfl rfl rfl rfl))) ?_; rintro e v2 ⟨rfl, b2⟩; have HV2 : Hid (Below wr.heap.size wr v2) := b2; clear b2; obtain ⟨k1, k3⟩ := HPW2.out v2 HV2.out))
              have g0 : ∀ W : World, (Op.stringOp .add (t1 ++ ⟨#[10, 9, 13]⟩ ++ t2) ⟨#[32]⟩).run Tryz.prog W = .ok (.string (t1 ++ ⟨#[10, 9, 13]⟩ ++ t2 ++ ⟨#[32]⟩)) W := fun W => run_string_add_sum W _ _ (by (try simp only [ByteArray.size_append]); omega)
              go_wp2_with fail
              refine Calls.mono (HXA.out _ (by first | exact HV2.out | exact HV2.out.trans (same_heap rfl rfl rfl rfl))) ?_
              rintro e v3 ⟨rfl, b3⟩
              have HV3 : Hid (Below wr.heap.size wr v3) := b3
              obtain ⟨e1, e3⟩ := HSW.out v3 b3
              clear b3 g0
              have g0 : ∀ W : World, (Op.stringOp .add (⟨s.toArray⟩) ⟨#[58, 47, 47, 117, 59, 118, 58, 112, 64, 113, 64]⟩).run Tryz.prog W = .ok (.string (⟨s.toArray⟩ ++ ⟨#[58, 47, 47, 117, 59, 118, 58, 112, 64, 113, 64]⟩)) W := fun W => run_string_add_sum W _ _ (by (try simp only [ByteArray.size_append]); omega)
              have g1 : ∀ W : World, (Op.stringOp .add (⟨s.toArray⟩ ++ ⟨#[58, 47, 47, 117, 59, 118, 58, 112, 64, 113, 64]⟩) hb).run Tryz.prog W = .ok (.string (⟨s.toArray⟩ ++ ⟨#[58, 47, 47, 117, 59, 118, 58, 112, 64, 113, 64]⟩ ++ hb)) W := fun W => run_string_add_sum W _ _ (by (try simp only [ByteArray.size_append]); omega)
              have g2 : ∀ W : World, (Op.stringOp .add (⟨s.toArray⟩ ++ ⟨#[58, 47, 47, 117, 59, 118, 58, 112, 64, 113, 64]⟩ ++ hb) ⟨#[58]⟩).run Tryz.prog W = .ok (.string (⟨s.toArray⟩ ++ ⟨#[58, 47, 47, 117, 59, 118, 58, 112, 64, 113, 64]⟩ ++ hb ++ ⟨#[58]⟩)) W := fun W => run_string_add_sum W _ _ (by (try simp only [ByteArray.size_append]); omega)
              have g3 : ∀ W : World, (Op.stringOp .add (⟨s.toArray⟩ ++ ⟨#[58, 47, 47, 117, 59, 118, 58, 112, 64, 113, 64]⟩ ++ hb ++ ⟨#[58]⟩) ⟨#[48, 48, 48]⟩).run Tryz.prog W = .ok (.string (⟨s.toArray⟩ ++ ⟨#[58, 47, 47, 117, 59, 118, 58, 112, 64, 113, 64]⟩ ++ hb ++ ⟨#[58]⟩ ++ ⟨#[48, 48, 48]⟩)) W := fun W => run_string_add_sum W _ _ (by (try simp only [ByteArray.size_append]); omega)
              have g4 : ∀ W : World, (Op.stringOp .add (⟨s.toArray⟩ ++ ⟨#[58, 47, 47, 117, 59, 118, 58, 112, 64, 113, 64]⟩ ++ hb ++ ⟨#[58]⟩ ++ ⟨#[48, 48, 48]⟩) dg).run Tryz.prog W = .ok (.string (⟨s.toArray⟩ ++ ⟨#[58, 47, 47, 117, 59, 118, 58, 112, 64, 113, 64]⟩ ++ hb ++ ⟨#[58]⟩ ++ ⟨#[48, 48, 48]⟩ ++ dg)) W := fun W => run_string_add_sum W _ _ (by (try simp only [ByteArray.size_append]); omega)
              have g5 : ∀ W : World, (Op.stringOp .add (⟨s.toArray⟩ ++ ⟨#[58, 47, 47, 117, 59, 118, 58, 112, 64, 113, 64]⟩ ++ hb ++ ⟨#[58]⟩ ++ ⟨#[48, 48, 48]⟩ ++ dg) ⟨#[63, 97, 39, 98, 34, 99, 35, 100, 96, 101]⟩).run Tryz.prog W = .ok (.string (⟨s.toArray⟩ ++ ⟨#[58, 47, 47, 117, 59, 118, 58, 112, 64, 113, 64]⟩ ++ hb ++ ⟨#[58]⟩ ++ ⟨#[48, 48, 48]⟩ ++ dg ++ ⟨#[63, 97, 39, 98, 34, 99, 35, 100, 96, 101]⟩)) W := fun W => run_string_add_sum W _ _ (by (try simp only [ByteArray.size_append]); omega)
              have g6 : ∀ W : World, (Op.stringOp .add (⟨s.toArray⟩) ⟨#[58, 47, 47, 117, 37, 51, 66, 118, 58, 112, 37, 52, 48, 113, 64]⟩).run Tryz.prog W = .ok (.string (⟨s.toArray⟩ ++ ⟨#[58, 47, 47, 117, 37, 51, 66, 118, 58, 112, 37, 52, 48, 113, 64]⟩)) W := fun W => run_string_add_sum W _ _ (by (try simp only [ByteArray.size_append]); omega)
              have g7 : ∀ W : World, (Op.stringOp .add (⟨s.toArray⟩ ++ ⟨#[58, 47, 47, 117, 37, 51, 66, 118, 58, 112, 37, 52, 48, 113, 64]⟩) hb).run Tryz.prog W = .ok (.string (⟨s.toArray⟩ ++ ⟨#[58, 47, 47, 117, 37, 51, 66, 118, 58, 112, 37, 52, 48, 113, 64]⟩ ++ hb)) W := fun W => run_string_add_sum W _ _ (by (try simp only [ByteArray.size_append]); omega)
              have g8 : ∀ W : World, (Op.stringOp .add (⟨s.toArray⟩ ++ ⟨#[58, 47, 47, 117, 37, 51, 66, 118, 58, 112, 37, 52, 48, 113, 64]⟩ ++ hb) (⟨#[58]⟩ ++ dg)).run Tryz.prog W = .ok (.string (⟨s.toArray⟩ ++ ⟨#[58, 47, 47, 117, 37, 51, 66, 118, 58, 112, 37, 52, 48, 113, 64]⟩ ++ hb ++ (⟨#[58]⟩ ++ dg))) W := fun W => run_string_add_sum W _ _ (by (try simp only [ByteArray.size_append]); omega)
              have g9 : ∀ W : World, (Op.stringOp .add (⟨s.toArray⟩ ++ ⟨#[58, 47, 47, 117, 37, 51, 66, 118, 58, 112, 37, 52, 48, 113, 64]⟩ ++ hb ++ (⟨#[58]⟩ ++ dg)) ⟨#[47, 63, 97, 37, 50, 55, 98, 37, 50, 50, 99, 35, 100, 37, 54, 48, 101]⟩).run Tryz.prog W = .ok (.string (⟨s.toArray⟩ ++ ⟨#[58, 47, 47, 117, 37, 51, 66, 118, 58, 112, 37, 52, 48, 113, 64]⟩ ++ hb ++ (⟨#[58]⟩ ++ dg) ++ ⟨#[47, 63, 97, 37, 50, 55, 98, 37, 50, 50, 99, 35, 100, 37, 54, 48, 101]⟩)) W := fun W => run_string_add_sum W _ _ (by (try simp only [ByteArray.size_append]); omega)
              go_wp2_with fail
              go_region_held3 (fun w' => w'.cell? ⟨0, 0, none⟩ = some (.slice (some a0) 5 c0) ∧ w'.cell? (a0.add k) = some (.string ⟨s.toArray⟩)) (go_keep) (first | (go_at_call 17; refine Calls.mono (HDG.out _ (by first | exact HV3.out | exact HV3.out.trans (same_heap rfl rfl rfl rfl))) ?_; rintro e v4 ⟨rfl, b4⟩; have HV4 : Hid (Below wr.heap.size wr v4) := b4; clear b4; obtain ⟨j1, j3⟩ := HSW.out v4 HV4.out) | (go_at_call 26; refine Calls.mono (HX2.out _ (by first | exact HV4.out | exact HV4.out.trans (same_heap rfl rfl rfl rfl))) ?_; rintro e v5 ⟨rfl, b5⟩; have HV5 : Hid (Below wr.heap.size wr v5) := b5; clear b5; obtain ⟨i1, i3⟩ := HSW.out v5 HV5.out))
              clear g0 g1 g2 g3 g4 g5 g6 g7 g8 g9
              have hwa := HWA.out
              have g0 : ∀ W : World, (Op.stringOp .add (⟨s.toArray⟩) ⟨#[58, 47, 47]⟩).run Tryz.prog W = .ok (.string (⟨s.toArray⟩ ++ ⟨#[58, 47, 47]⟩)) W := fun W => run_string_add_sum W _ _ (by (try simp only [ByteArray.size_append]); omega)
              have g1 : ∀ W : World, (Op.stringOp .add (⟨s.toArray⟩ ++ ⟨#[58, 47, 47]⟩) hb).run Tryz.prog W = .ok (.string (⟨s.toArray⟩ ++ ⟨#[58, 47, 47]⟩ ++ hb)) W := fun W => run_string_add_sum W _ _ (by (try simp only [ByteArray.size_append]); omega)
              have g2 : ∀ W : World, (Op.stringOp .add (⟨s.toArray⟩ ++ ⟨#[58, 47, 47]⟩ ++ hb) ⟨#[58]⟩).run Tryz.prog W = .ok (.string (⟨s.toArray⟩ ++ ⟨#[58, 47, 47]⟩ ++ hb ++ ⟨#[58]⟩)) W := fun W => run_string_add_sum W _ _ (by (try simp only [ByteArray.size_append]); omega)
              have g3 : ∀ W : World, (Op.stringOp .add (⟨s.toArray⟩ ++ ⟨#[58, 47, 47]⟩ ++ hb ++ ⟨#[58]⟩) dg2).run Tryz.prog W = .ok (.string (⟨s.toArray⟩ ++ ⟨#[58, 47, 47]⟩ ++ hb ++ ⟨#[58]⟩ ++ dg2)) W := fun W => run_string_add_sum W _ _ (by (try simp only [ByteArray.size_append]); omega)
              go_wp2_with fail
              go_region_held3 (fun w' => w'.cell? ⟨0, 0, none⟩ = some (.slice (some a0) 5 c0) ∧ w'.cell? (a0.add k) = some (.string ⟨s.toArray⟩)) (go_keep) (first | (go_at_call 17; refine Calls.mono (HDG2.out _ (by first | exact HV5.out | exact HV5.out.trans (same_heap rfl rfl rfl rfl))) ?_; rintro e v6 ⟨rfl, b6⟩; have HV6 : Hid (Below wr.heap.size wr v6) := b6; clear b6; obtain ⟨l1, l3⟩ := HSW.out v6 HV6.out) | (go_at_call 27; refine Calls.mono (HX3.out _ (by first | exact HV6.out | exact HV6.out.trans (same_heap rfl rfl rfl rfl))) ?_; rintro e v7 ⟨rfl, b7⟩; have HV7 : Hid (Below wr.heap.size wr v7) := b7; clear b7; obtain ⟨m1, m3⟩ := HSW.out v7 HV7.out))
              clear hwa g0 g1 g2 g3
              have g0 : ∀ W : World, (Op.stringOp .add (⟨s.toArray⟩) ⟨#[58, 47, 47]⟩).run Tryz.prog W = .ok (.string (⟨s.toArray⟩ ++ ⟨#[58, 47, 47]⟩)) W := fun W => run_string_add_sum W _ _ (by (try simp only [ByteArray.size_append]); omega)
              go_wp2_with fail
              refine Calls.mono (HX4.out _ (by first | exact HV7.out | exact HV7.out.trans (same_heap rfl rfl rfl rfl))) ?_
              rintro e v8 ⟨rfl, b8⟩
              have HV8 : Hid (Below wr.heap.size wr v8) := b8
              obtain ⟨n1, n3⟩ := HSW.out v8 b8
              clear b8 g0
              have g0 : ∀ W : World, (Op.stringOp .add (⟨s.toArray⟩) ⟨#[58, 47, 47, 117, 64]⟩).run Tryz.prog W = .ok (.string (⟨s.toArray⟩ ++ ⟨#[58, 47, 47, 117, 64]⟩)) W := fun W => run_string_add_sum W _ _ (by (try simp only [ByteArray.size_append]); omega)
              go_wp2_with fail
              refine Calls.mono (HX5.out _ (by first | exact HV8.out | exact HV8.out.trans (same_heap rfl rfl rfl rfl))) ?_
              rintro e v9 ⟨rfl, b9⟩
              have HV9 : Hid (Below wr.heap.size wr v9) := b9
              clear b9 g0
              have g0 : ∀ W : World, (Op.stringOp .add (⟨#[120, 58]⟩) hb).run Tryz.prog W = .ok (.string (⟨#[120, 58]⟩ ++ hb)) W := fun W => run_string_add_sum W _ _ (by (try simp only [ByteArray.size_append]); omega)
              have g1 : ∀ W : World, (Op.stringOp .add (⟨#[120, 58]⟩ ++ hb) ⟨#[32, 121, 127]⟩).run Tryz.prog W = .ok (.string (⟨#[120, 58]⟩ ++ hb ++ ⟨#[32, 121, 127]⟩)) W := fun W => run_string_add_sum W _ _ (by (try simp only [ByteArray.size_append]); omega)
              have g2 : ∀ W : World, (Op.stringOp .add (⟨#[120, 58]⟩ ++ hb) ⟨#[37, 50, 48, 121, 37, 55, 70]⟩).run Tryz.prog W = .ok (.string (⟨#[120, 58]⟩ ++ hb ++ ⟨#[37, 50, 48, 121, 37, 55, 70]⟩)) W := fun W => run_string_add_sum W _ _ (by (try simp only [ByteArray.size_append]); omega)
              go_wp2_with fail
              refine Calls.mono (HX6.out _ (by first | exact HV9.out | exact HV9.out.trans (same_heap rfl rfl rfl rfl))) ?_
              rintro e v10 ⟨rfl, b10⟩
              have HV10 : Hid (Below wr.heap.size wr v10) := b10
              clear b10
              go_wp2_with fail
              go_ret
              exact ⟨rfl, HB6.out v10 HV10.out⟩
end Go.Proofs
