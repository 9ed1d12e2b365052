import Derived.Test.YtkcnageeamappaaGreatDoorXQ4
import Derived.Test.YtkcnageeamappaaGreatDoorXFPlain
import Derived.Shelf.Strings.SlTrimAscii
import Derived.Test.YtkcnageeamappaaGreatDoorXHMarks
import Derived.Test.YtkcnageeamappaaGreatDoorXLabels
import Derived.OwnWalk
namespace Go.Proofs
open Go.RowKit Go.Moor
set_option maxHeartbeats 1000000 in
theorem Tryz.readPiece_any (s : ByteArray) (w : World) (hs : s.size ≤ maxLen) (he : Tryz.Err 23 w) (he2 : Tryz.Err 18 w) :
    Calls Tryz.prog 229 #[.string s] w fun e w' => NumRes (sixPiece s.data.toList) e ∧ ∃ n, w' = w.drewN n := by
  have hlen : s.data.toList.length = s.size := by simp
  unfold sixPiece
  rw [hlen]
  have HE : Hid (Tryz.Err 23 w) := he
  obtain ⟨te, ve, hce⟩ := he2
  have hxs := hs
  unfold maxLen at hs
  clear he hlen
  by_cases h0 : s.size < 1
  · rw [if_pos (Or.inl h0)]
    go_enter Tryz.func229, Tryz.ntmps229
    go_wp2
    go_quiet (fail)
    go_wp2
    go_ret2
    exact ⟨⟨_, _, rfl⟩, _, rfl⟩
  · by_cases h4 : 4 < s.size
    · rw [if_pos (Or.inr h4)]
      go_enter Tryz.func229, Tryz.ntmps229
      go_wp2
      go_quiet (fail)
      go_wp2
      go_ret2
      exact ⟨⟨_, _, rfl⟩, _, rfl⟩
    · rw [if_neg (by omega)]
      go_enter Tryz.func229, Tryz.ntmps229
      go_wp2_with fail
      refine (Tryz.readDigits_any s 16 65535 _ hxs (by omega) (by omega) (by omega) (by omega) HE.out).mono ?_
      rintro e w1 ⟨hr, nd, rfl⟩
      obtain ⟨ra, rb, rfl, hr⟩ := numRes_ret hr
      have HR : Hid (NumRes (digAcc 16 65535 0 s.data.toList) (.returned (.tuple #[.int .u64 ra, rb]))) := hr
      clear hr
      go_wp2
      go_ret2
      exact ⟨HR.out, nd, rfl⟩
set_option maxHeartbeats 1000000 in
theorem Tryz.plainDec_empty (s : ByteArray) (w : World) (hem : s.toList.isEmpty = true) (he2 : Tryz.Err 5 w) :
    Calls Tryz.prog 294 #[.string s] w fun e w' => NumRes none e ∧ ∃ n, w' = w.drewN n := by
  obtain ⟨te, ve, hce⟩ := he2
  go_enter Tryz.func294, Tryz.ntmps294
  go_wp2
  go_quiet (fail)
  go_wp2
  go_ret2
  exact ⟨⟨_, _, rfl⟩, _, rfl⟩
set_option maxHeartbeats 1000000 in
theorem Tryz.plainDec_nought (s : ByteArray) (w : World) (hs : s.size ≤ maxLen) (hem : s.toList.isEmpty = false) (h2 : 1 < s.size) (h48 : ((s[0].toNat : Int) == 48) = true) (he2 : Tryz.Err 24 w) :
    Calls Tryz.prog 294 #[.string s] w fun e w' => NumRes none e ∧ ∃ n, w' = w.drewN n := by
  unfold maxLen at hs
  obtain ⟨te, ve, hce⟩ := he2
  go_enter Tryz.func294, Tryz.ntmps294
  go_wp2
  go_quiet (fail)
  go_wp2
  go_ret2
  exact ⟨⟨_, _, rfl⟩, _, rfl⟩
set_option maxHeartbeats 1000000 in
theorem Tryz.plainDec_dec (s : ByteArray) (w : World) (hs : s.size ≤ maxLen) (hem : s.toList.isEmpty = false) (h1 : 0 < s.size) (h48 : ((s[0].toNat : Int) == 48) = false ∨ (((s[0].toNat : Int) == 48) = true ∧ s.size < 2)) (he : Tryz.Err 23 w) :
    Calls Tryz.prog 294 #[.string s] w fun e w' => NumRes (digAcc 10 255 0 s.data.toList) e ∧ ∃ n, w' = w.drewN n := by
  have HE : Hid (Tryz.Err 23 w) := he
  have hxs := hs
  unfold maxLen at hs
  clear he
  rcases h48 with h48 | ⟨h48, hlt⟩
  all_goals
    go_enter Tryz.func294, Tryz.ntmps294
    go_wp2_with fail
    refine (Tryz.readDigits_any s 10 255 _ hxs (by omega) (by omega) (by omega) (by omega) HE.out).mono ?_
    rintro e w1 ⟨hr, nd, rfl⟩
    obtain ⟨ra, rb, rfl, hr⟩ := numRes_ret hr
    have HR : Hid (NumRes (digAcc 10 255 0 s.data.toList) (.returned (.tuple #[.int .u64 ra, rb]))) := hr
    clear hr
    go_wp2
    go_ret2
    exact ⟨HR.out, nd, rfl⟩
theorem Tryz.readPlainDecimal_any (s : ByteArray) (w : World) (hs : s.size ≤ maxLen) (he : Tryz.Err 23 w) (he2 : Tryz.Err 5 w) (he3 : Tryz.Err 24 w) :
    Calls Tryz.prog 294 #[.string s] w fun e w' => NumRes (plainDec s.data.toList) e ∧ ∃ n, w' = w.drewN n := by
  have hlen : s.data.toList.length = s.size := by simp
  match hl : s.data.toList with
  | [] => exact Tryz.plainDec_empty s w (by rw [Lib.toList_data, hl]; rfl) he2
  | a :: l =>
    have hem : s.toList.isEmpty = false := by rw [Lib.toList_data, hl]; rfl
    have h1 : 0 < s.size := by rw [← hlen, hl]; simp
    have ha := first_at s a l hl h1
    unfold plainDec
    rw [if_neg (by simp)]
    by_cases h48 : a = 48
    · have hb : ((s[0].toNat : Int) == 48) = true := by rw [ha, h48]; decide
      by_cases h2 : 1 < s.size
      · rw [if_pos ⟨by simp [h48], by rw [← hl, hlen]; exact h2⟩]
        exact Tryz.plainDec_nought s w hs hem h2 hb he3
      · rw [if_neg (by rw [← hl, hlen]; exact fun h => h2 h.2), ← hl]
        exact Tryz.plainDec_dec s w hs hem h1 (Or.inr ⟨hb, by omega⟩) he
    · rw [if_neg (by simp [h48]), ← hl]
      refine Tryz.plainDec_dec s w hs hem h1 (Or.inl ?_) he
      rw [ha]
      have : (a.toNat : Int) ≠ 48 := fun e => h48 (by
        apply UInt8.toNat_inj.1
        show a.toNat = 48
        omega)
      simpa using this
set_option maxHeartbeats 1000000 in
theorem Tryz.readDecimal_any (s : ByteArray) (w : World) (hs : s.size ≤ maxLen) (he : Tryz.Err 23 w) (he2 : Tryz.Err 5 w) (he3 : Tryz.Err 24 w) :
    Calls Tryz.prog 265 #[.string s] w fun e w' => NumRes (plainDec s.data.toList) e ∧ ∃ n, w' = w.drewN n := by
  have HE : Hid (Tryz.Err 23 w) := he
  have HE2 : Hid (Tryz.Err 5 w) := he2
  have HE3 : Hid (Tryz.Err 24 w) := he3
  clear he he2 he3
  cases ho : plainDec s.data.toList with
  | none =>
    have HO : Hid (plainDec s.data.toList = none) := ho
    clear ho
    go_enter Tryz.func265, Tryz.ntmps265
    go_wp2_with fail
    refine (Tryz.readPlainDecimal_any s _ hs HE.out HE2.out HE3.out).mono ?_
    rw [HO.out]
    rintro e w1 ⟨⟨t, v, rfl⟩, nd, rfl⟩
    go_wp2
    go_ret2
    exact ⟨⟨_, _, rfl⟩, nd, rfl⟩
  | some n =>
    have HO : Hid (plainDec s.data.toList = some n) := ho
    clear ho
    go_enter Tryz.func265, Tryz.ntmps265
    go_wp2_with fail
    refine (Tryz.readPlainDecimal_any s _ hs HE.out HE2.out HE3.out).mono ?_
    rw [HO.out]
    rintro e w1 ⟨rfl, nd, rfl⟩
    go_wp2
    go_ret2
    exact ⟨rfl, nd, rfl⟩
set_option maxHeartbeats 1000000 in
theorem Tryz.rightCount_any (k : Int) (b : Bool) (w : World) :
    Calls Tryz.prog 194 #[.int .i64 k, .bool b] w fun e w' => e = .returned (.bool (if b then decide (k < 8) else k == 8)) ∧ w' = w := by
  cases b
  all_goals
    go_enter Tryz.func194, Tryz.ntmps194
    go_wp2
    go_ret
    exact ⟨rfl, rfl⟩
set_option maxHeartbeats 1000000 in
theorem Tryz.splitPieces_empty (s : ByteArray) (w : World) (hem : s.toList.isEmpty = true) :
    Calls Tryz.prog 192 #[.string s] w fun e w' => e = .returned (.slice none 0 0) ∧ w' = w := by
  go_enter Tryz.func192, Tryz.ntmps192
  go_wp2
  go_ret
  exact ⟨rfl, rfl⟩
end Go.Proofs
namespace Go.Proofs
open Go.RowKit Go.Moor
theorem Tryz.infoU64 : (Tryz.prog.info? 151).map (fun i => (i.zero, i.size, i.bytes)) = some (some (.int .u64 0), 1, 8) := by kernel_rfl
def Tryz.RowRes (B : Nat) (o : Option (List Int)) (e : Ending) (w' : World) : Prop :=
  match o with
  | some ps => ∃ v, e = .returned (.tuple #[v, .nilIface]) ∧ w'.ownsRow B 151 1 v ps.length (ps.map (Value.int .u64))
  | none => ∃ t v, e = .returned (.tuple #[.slice none 0 0, .iface t v])
set_option maxHeartbeats 1000000 in
theorem Tryz.readPieces_nil (w : World) :
    Calls Tryz.prog 191 #[.slice none 0 0] w fun e w' => e = .returned (.tuple #[.slice none 0 0, .nilIface]) ∧ w' = w := by
  go_enter Tryz.func191, Tryz.ntmps191
  go_wp2
  go_loop [4, 11] (fun v i => v = .slice none 0 0 ∧ i = .int .i64 0) (fun _ _ => 0)
  case atStart => exact ⟨rfl, rfl⟩
  case round =>
    obtain ⟨rfl, rfl⟩ := hrel
    go_wp2
    go_ret2
    exact ⟨rfl, rfl⟩
set_option maxHeartbeats 4000000 in
theorem Tryz.readPieces_row (b cap : Nat) (xs : List ByteArray) (w : World) (hb : b < w.heap.size) (hcap : xs.length ≤ cap) (hcap2 : cap ≤ 4294967282) (hs : ∀ x ∈ xs, x.size ≤ maxLen)
    (hcl : ∀ (j : Nat) x, xs[j]? = some x → w.cell? ⟨b, j, none⟩ = some (.string x)) (henv : Tryz.Env w) :
    Calls Tryz.prog 191 #[.slice (some ⟨b, 0, none⟩) xs.length cap] w fun e w' => Tryz.RowRes w.heap.size (sixPieces (xs.map (·.data.toList))) e w' ∧ Below w.heap.size w w' := by
  have HC : Hid (∀ (j : Nat) x, xs[j]? = some x → w.cell? ⟨b, j, none⟩ = some (.string x)) := hcl
  have HS : Hid (∀ x ∈ xs, x.size ≤ maxLen) := hs
  have HV : Hid (Tryz.Env w) := henv
  obtain ⟨i0, hi, hz0, hz1, hz2⟩ := info_parts Tryz.infoU64
  generalize hgo : sixPieces (xs.map (·.data.toList)) = goal
  have HG : Hid (sixAcc [] (xs.map (·.data.toList)) = goal) := hgo
  clear hcl hs henv hgo
  go_enter Tryz.func191, Tryz.ntmps191
  go_wp2
  go_loopw [4, 11] (fun v i wr => ∃ (q : Nat) (ps : List Int), q ≤ xs.length ∧ i = .int .i64 q ∧ ps.length = q ∧ wr.ownsRow w.heap.size 151 1 v ps.length (ps.map (Value.int .u64)) ∧ sixAcc ps ((xs.map (·.data.toList)).drop q) = goal ∧ Below w.heap.size w wr) (fun _ i _ => xs.length - (intOf i).toNat)
  case atStart => exact ⟨0, [], Nat.zero_le _, rfl, rfl, World.ownsRow_nil _ _ _ _, HG.out, Below.refl _ _⟩
  case round =>
    obtain ⟨q, ps, hq, rfl, hpl, hown, hrest, hbw⟩ := hrel
    have HR : Hid (sixAcc ps ((xs.map (·.data.toList)).drop q) = goal) := hrest
    have HB : Hid (Below w.heap.size w wr) := hbw
    have HO : Hid (wr.ownsRow w.heap.size 151 1 _ ps.length (ps.map (Value.int .u64))) := hown
    have hwz := hbw.size
    clear hrest hbw hown
    by_cases hlt : q < xs.length
    · obtain ⟨x, hx⟩ : ∃ x, xs[q]? = some x := ⟨xs[q]'hlt, by simp⟩
      have hc : wr.cell? ⟨b, q, none⟩ = some (.string x) := (HB.out.cell (by exact hb)).trans (HC.out q x hx)
      have hxm := HS.out x (List.mem_of_getElem? hx)
      have HST : Hid (sixAcc ps ((xs.map (·.data.toList)).drop q) = (match sixPiece x.data.toList with | some n => sixAcc (ps ++ [n]) ((xs.map (·.data.toList)).drop (q + 1)) | none => none)) := sixAcc_step xs q x ps hx
      have HVr : Hid (Tryz.Env wr) := HV.out.below HB.out
      clear hx
      cases ho : sixPiece x.data.toList with
      | none =>
        have HN : Hid (sixPiece x.data.toList = none) := ho
        clear ho
        go_wp2_with fail
        refine (Tryz.readPiece_any x _ hxm HVr.out.eGreat HVr.out.eLength).mono ?_
        rw [HN.out]
        rintro e w2 ⟨⟨te, ve, rfl⟩, nd2, rfl⟩
        go_wp2
        go_ret2
        refine ⟨?_, Go.below_drewN HB.out _⟩
        have h1 := HR.out
        rw [HST.out, HN.out] at h1
        rw [← h1]
        exact ⟨_, _, rfl⟩
      | some n =>
        have HN : Hid (sixPiece x.data.toList = some n) := ho
        clear ho
        go_wp2_with fail
        refine (Tryz.readPiece_any x _ hxm HVr.out.eGreat HVr.out.eLength).mono ?_
        rw [HN.out]
        rintro e w2 ⟨rfl, nd2, rfl⟩
        have hown2 := (show (wr.drewN nd2).ownsRow w.heap.size 151 1 _ ps.length (ps.map (Value.int .u64)) from HO.out)
        have HO2 := hown2.alloc (.cells #[.int .u64 n] 151)
        go_wp2_with (at_builtin; refine wpList_append_own _ rfl _ _ 225 rfl w.heap.size 151 i0 (.int .u64 0) 1 8 Tryz.underlying225 hi hz0 hz1 hz2 rfl (by decide) _ _ _ rfl HO2 ⟨wr.heap.size, 0, none⟩ 1 1 [.int .u64 n] rfl rfl ?c1 ?c2 ?c3 ?c4 ?c5 ?_)
        case c1 =>
          intro j u hj
          match j, hj with
          | 0, hj => simp at hj; subst hj; exact World.cell?_alloc_new (wr.drewN nd2) #[.int .u64 n] 151 0
        case c2 => intro u hu; simp at hu; subst hu; rfl
        case c3 => unfold maxLen; omega
        case c4 => omega
        case c5 => simp; omega
        intro v' w1 hown' hgrow _
        have HOW : Hid (w1.ownsRow w.heap.size 151 1 v' (q + 1) (ps.map (Value.int .u64) ++ [.int .u64 n])) := hown'
        have HBB : Hid (Below w.heap.size w w1) := ((Go.below_drewN HB.out nd2).alloc (by simpa using hwz) _).grown hgrow (by simp; omega) (fun k hk => (HO2.lt k hk).1)
        clear hown' hgrow hown2 HO2
        go_wp2
        go_roundw
        case rel =>
          refine ⟨q + 1, ps ++ [n], by omega, by go_num, by simp [hpl], ?_, ?_, HBB.out⟩
          · have := HOW.out
            rw [List.length_append, List.map_append, hpl]
            exact this
          · have h1 := HR.out
            rw [HST.out, HN.out] at h1
            exact h1
        case measure => simp [intOf]; omega
    · go_wp2
      go_ret2
      refine ⟨?_, HB.out⟩
      have h1 := HR.out
      rw [List.drop_eq_nil_of_le (by simp; omega)] at h1
      rw [← h1]
      exact ⟨_, rfl, HO.out⟩
end Go.Proofs
namespace Go.Proofs
open Go.RowKit Go.Moor
set_option maxHeartbeats 2000000 in
theorem Tryz.readDotted_any (s : ByteArray) (w : World) (hs : s.size < 4294967281) (henv : Tryz.Env w) :
    Calls Tryz.prog 231 #[.string s] w fun e w' => NumRes (sixDotted s.data.toList) e ∧ Below w.heap.size w w' := by
  obtain ⟨m, hm⟩ := henv.maxLen
  have HM : Hid (w.cell? ⟨16, 0, none⟩ = some (.int .i64 m)) := hm
  have HV : Hid (Tryz.Env w) := henv
  clear hm henv
  generalize hgo : sixDotted s.data.toList = goal
  have HGO : Hid (sixDotted s.data.toList = goal) := hgo
  clear hgo
  go_enter Tryz.func231, Tryz.ntmps231
  go_wp2_with fail
  refine (Tryz.split_any s 46 m _ hs HM.out).mono ?_
  rintro e w0 ⟨xs, hxs, rfl, hw0⟩
  obtain ⟨w1, hw1⟩ : ∃ w1, w1 = w0 := ⟨_, rfl⟩
  have HB : Hid (Below w.heap.size w w1) := by rw [hw1, hw0]; exact (Below.refl _ w).alloc (Nat.le_refl _) _
  have HC : Hid (∀ (j : Nat) x, xs[j]? = some x → w1.cell? ⟨w.heap.size, j, none⟩ = some (.string x)) := by rw [hw1, hw0]; exact row_cells w xs 9
  have HX : Hid (xs.map (·.data.toList) = splitOn 46 s.data.toList) := hxs
  have HS : Hid (∀ x ∈ xs, x.size ≤ maxLen) := by
    intro x hx
    have := splitOn_mem 46 s.data.toList x.data.toList (by rw [← hxs]; exact List.mem_map.2 ⟨x, hx, rfl⟩)
    simp at this
    unfold maxLen; omega
  have hlen : xs.length ≤ s.size + 1 := by
    have := splitOn_len 46 s.data.toList
    rw [← hxs] at this
    simpa using this
  rw [← hw1]
  clear hw1 hw0 hxs
  have HV1 : Hid (Tryz.Env w1) := HV.out.below HB.out
  by_cases h4 : xs.length = 4
  · have HL : Hid (sixDotted s.data.toList = dotAcc 0 (xs.map (·.data.toList))) := by
      show _ = _
      unfold sixDotted
      rw [← HX.out, if_pos (by simpa using h4)]
    have HG : Hid (dotAcc 0 (xs.map (·.data.toList)) = goal) := HL.out.symm.trans HGO.out
    go_wp2
    go_loopw [5, 18] (fun t i wr => ∃ (q nd : Nat) (a : Int), q ≤ 4 ∧ i = .int .i64 q ∧ t = .int .u64 a ∧ 0 ≤ a ∧ a < 256 ^ q ∧ dotAcc a ((xs.map (·.data.toList)).drop q) = goal ∧ wr = w1.drewN nd) (fun _ i _ => 4 - (intOf i).toNat)
    case atStart => exact ⟨0, 0, 0, by omega, rfl, rfl, by omega, by omega, HG.out, rfl⟩
    case round =>
      obtain ⟨q, nd, a, hq, rfl, rfl, ha0, ha1, hfr, rfl⟩ := hrel
      have HF : Hid (dotAcc a ((xs.map (·.data.toList)).drop q) = goal) := hfr
      have HA1 : Hid (a < 256 ^ q) := ha1
      clear hfr ha1
      by_cases hlt : q < 4
      · have ha2 : a < 16777216 := Int.lt_of_lt_of_le HA1.out (by
          have : q = 0 ∨ q = 1 ∨ q = 2 ∨ q = 3 := by omega
          rcases this with rfl | rfl | rfl | rfl <;> decide)
        obtain ⟨x, hx⟩ : ∃ x, xs[q]? = some x := ⟨xs[q]'(by omega), by simp⟩
        have hc := HC.out q x hx
        have hxm := HS.out x (List.mem_of_getElem? hx)
        have HST : Hid (dotAcc a ((xs.map (·.data.toList)).drop q) = (match plainDec x.data.toList with | some n => dotAcc (a * 256 + n) ((xs.map (·.data.toList)).drop (q + 1)) | none => none)) := dotAcc_step xs q x a hx
        have HVn : Hid (Tryz.Env (w1.drewN nd)) := HV1.out.drew nd
        clear hx
        cases ho : plainDec x.data.toList with
        | none =>
          have HO : Hid (plainDec x.data.toList = none) := ho
          clear ho
          go_wp2_with fail
          refine (Tryz.readDecimal_any x _ hxm HVn.out.eGreat HVn.out.eEmpty HVn.out.eNought).mono ?_
          rw [HO.out]
          rintro e w2 ⟨⟨te, ve, rfl⟩, nd2, rfl⟩
          go_wp2
          go_ret2
          refine ⟨?_, Go.below_drewN HB.out _⟩
          have h1 := HF.out
          rw [HST.out, HO.out] at h1
          rw [← h1]
          exact ⟨_, _, rfl⟩
        | some n =>
          have HO : Hid (plainDec x.data.toList = some n) := ho
          have hnr := plainDec_range _ n ho
          clear ho
          have HJ : Hid (bits .or .u64 (a * 256) n = a * 256 + n) := or_join a n 8 256 rfl (by omega) ha0 ha2 hnr.1 (by omega)
          go_wp2_with fail
          refine (Tryz.readDecimal_any x _ hxm HVn.out.eGreat HVn.out.eEmpty HVn.out.eNought).mono ?_
          rw [HO.out]
          rintro e w2 ⟨rfl, nd2, rfl⟩
          go_wp2
          go_roundw
          case rel =>
            refine ⟨q + 1, nd + nd2, a * 256 + n, by omega, by go_num, by rw [HJ.out], by omega, ?_, ?_, rfl⟩
            · have h1 := HA1.out
              rw [Int.pow_succ]
              generalize (256 : Int) ^ q = P at h1 ⊢
              omega
            · have h1 := HF.out
              rw [HST.out, HO.out] at h1
              exact h1
          case measure => simp [intOf]; omega
      · go_wp2
        go_ret2
        refine ⟨?_, Go.below_drewN HB.out _⟩
        have h1 := HF.out
        rw [List.drop_eq_nil_of_le (by simp; omega)] at h1
        rw [← h1]
        rfl
  · have HL : Hid (sixDotted s.data.toList = none) := by
      show _ = _
      unfold sixDotted
      rw [← HX.out, if_neg (by simpa using h4)]
    have h4b : ((xs.length : Int) == 4) = false := by
      rw [beq_eq_false_iff_ne]; omega
    obtain ⟨te, ve, hce⟩ := HV1.out.eCount
    go_wp2
    go_quiet (fail)
    go_wp2
    go_ret2
    refine ⟨?_, Go.below_drewN HB.out _⟩
    rw [← HGO.out, HL.out]
    exact ⟨_, _, rfl⟩
def Tryz.PieceRow (B : Nat) (w' : World) (ls : List (List UInt8)) (v : Value) : Prop :=
  (ls = [] ∧ v = .slice none 0 0) ∨ ∃ xs : List ByteArray, xs.map (·.data.toList) = ls ∧ xs ≠ [] ∧ xs.length ≤ 4294967282 ∧ v = .slice (some ⟨B, 0, none⟩) xs.length xs.length ∧ (∀ (j : Nat) x, xs[j]? = some x → w'.cell? ⟨B, j, none⟩ = some (.string x)) ∧ B < w'.heap.size ∧ ∀ x ∈ xs, x.size < 4294967281
set_option maxHeartbeats 1000000 in
theorem Tryz.splitPieces_any (s : ByteArray) (m : Int) (w : World) (hs : s.size < 4294967281) (hm : w.cell? ⟨16, 0, none⟩ = some (.int .i64 m)) :
    Calls Tryz.prog 192 #[.string s] w fun e w' => (∃ v, e = .returned v ∧ Tryz.PieceRow w.heap.size w' (sixSplit s.data.toList) v) ∧ Below w.heap.size w w' := by
  by_cases hem : s.toList.isEmpty = true
  · have he : s.data.toList = [] := by rw [Lib.toList_data] at hem; simpa using hem
    refine (Tryz.splitPieces_empty s w hem).mono ?_
    rintro e w' ⟨rfl, rfl⟩
    exact ⟨⟨_, rfl, Or.inl ⟨by unfold sixSplit; rw [if_pos he], rfl⟩⟩, Below.refl _ _⟩
  · have HM : Hid (w.cell? ⟨16, 0, none⟩ = some (.int .i64 m)) := hm
    have hem2 : s.toList.isEmpty = false := Bool.eq_false_iff.2 hem
    have HE : Hid (s.data.toList ≠ []) := by rw [Lib.toList_data] at hem; show _ ≠ _; simpa using hem
    clear hm hem
    go_enter Tryz.func192, Tryz.ntmps192
    go_wp2_with fail
    refine (Tryz.split_any s 58 m _ hs HM.out).mono ?_
    rintro e w0 ⟨xs, hxs, rfl, hw0⟩
    have HX : Hid (xs.map (·.data.toList) = splitOn 58 s.data.toList) := hxs
    have HW : Hid (w0 = w.alloc (.cells (xs.map Value.string).toArray 9)) := hw0
    clear hxs hw0
    go_wp2
    go_ret
    have hlen : xs.length ≤ s.size + 1 := by
      have := splitOn_len 58 s.data.toList
      rw [← HX.out] at this
      simpa using this
    refine ⟨⟨_, rfl, Or.inr ⟨xs, by unfold sixSplit; rw [if_neg HE.out]; exact HX.out, ?_, by omega, rfl, by rw [HW.out]; exact row_cells w xs 9, by rw [HW.out]; simp, ?_⟩⟩, by rw [HW.out]; exact (Below.refl _ w).alloc (Nat.le_refl _) _⟩
    · intro e
      have := HX.out
      rw [e] at this
      exact splitOn_ne 58 _ this.symm
    · intro x hx
      have := splitOn_mem 58 s.data.toList x.data.toList (by rw [← HX.out]; exact List.mem_map.2 ⟨x, hx, rfl⟩)
      simp at this
      omega
end Go.Proofs
namespace Go.Proofs
open Go.RowKit Go.Moor
theorem own_below {w w' : World} {base : Nat} {e : TypeId} {size : Nat} {v : Value} {n : Nat} {xs : List Value} (h : w.ownsRow base e size v n xs) (hb : Below w.heap.size w w') : w'.ownsRow base e size v n xs := by
  refine ⟨h.1, ?_⟩
  rcases h.2 with h1 | ⟨g, cap, cur, h1, h2, h3, h4⟩
  · exact Or.inl h1
  · refine Or.inr ⟨g, cap, cur, h1, h2, ?_, h4⟩
    rw [hb.block g (by
      obtain ⟨h5, _⟩ := Array.getElem?_eq_some_iff.1 h3
      exact h5)]
    exact h3
theorem Tryz.rowRes_ret {B : Nat} {o : Option (List Int)} {e : Ending} {w : World} (h : Tryz.RowRes B o e w) : ∃ a b, e = .returned (.tuple #[a, b]) ∧ Tryz.RowRes B o (.returned (.tuple #[a, b])) w := by
  cases o with
  | some ps => obtain ⟨v, rfl, h⟩ := h; exact ⟨v, .nilIface, rfl, v, rfl, h⟩
  | none => obtain ⟨t, v, h⟩ := h; exact ⟨.slice none 0 0, .iface t v, h, ⟨t, v, rfl⟩⟩
set_option maxHeartbeats 2000000 in
theorem Tryz.readLast_nil (w : World) :
    Calls Tryz.prog 193 #[.slice none 0 0] w fun e w' => e = .returned (.tuple #[.slice none 0 0, .nilIface]) ∧ w' = w := by
  go_enter Tryz.func193, Tryz.ntmps193
  go_wp2_with fail
  refine (Tryz.readPieces_nil _).mono ?_
  rintro e w1 ⟨rfl, rfl⟩
  go_wp2
  go_ret2
  exact ⟨rfl, rfl⟩
set_option maxHeartbeats 2000000 in
theorem Tryz.readLast_plain (b : Nat) (xs : List ByteArray) (x : ByteArray) (w : World) (hb : b < w.heap.size) (hcap2 : xs.length ≤ 4294967282) (hs : ∀ x ∈ xs, x.size < 4294967281)
    (hcl : ∀ (j : Nat) x, xs[j]? = some x → w.cell? ⟨b, j, none⟩ = some (.string x)) (henv : Tryz.Env w) (hx : xs[xs.length - 1]? = some x) (hno : decide (0 ≤ Lib.indexByte x.data.toList 46) = false) :
    Calls Tryz.prog 193 #[.slice (some ⟨b, 0, none⟩) xs.length xs.length] w fun e w' => Tryz.RowRes w.heap.size (sixPieces (xs.map (·.data.toList))) e w' ∧ Below w.heap.size w w' := by
  have hc := hcl _ x hx
  have HCT : Hid (Calls Tryz.prog 191 #[.slice (some ⟨b, 0, none⟩) xs.length xs.length] w fun e w' => Tryz.RowRes w.heap.size (sixPieces (xs.map (·.data.toList))) e w' ∧ Below w.heap.size w w') :=
    Tryz.readPieces_row b xs.length xs w hb (Nat.le_refl _) hcap2 (fun x hx => by have := hs x hx; unfold maxLen; omega) hcl henv
  have hne : 1 ≤ xs.length := by
    cases xs with
    | nil => simp at hx
    | cons a l => simp
  have HCN : Hid (Calls Tryz.prog 230 #[.string x, .string ⟨#[46]⟩] w fun e w' => e = .returned (.bool false) ∧ w' = w) := by
    have := Tryz.strings_Contains_one x 46 w
    rw [hno] at this
    exact this
  generalize hgo : sixPieces (xs.map (·.data.toList)) = goal
  rw [hgo] at HCT
  clear hcl henv hs hx hno hgo
  go_enter Tryz.func193, Tryz.ntmps193
  go_wp2_with fail
  refine HCN.out.mono ?_
  rintro e w1 ⟨rfl, hw⟩
  have hw := hw.symm
  subst hw
  go_wp2_with fail
  refine HCT.out.mono ?_
  rintro e w1 ⟨hr, hbw⟩
  obtain ⟨ra, rb, rfl, hr⟩ := Tryz.rowRes_ret hr
  have HR : Hid (Tryz.RowRes w.heap.size goal (.returned (.tuple #[ra, rb])) w1) := hr
  clear hr
  go_wp2
  go_ret2
  exact ⟨HR.out, hbw⟩
set_option maxHeartbeats 4000000 in
set_option maxRecDepth 100000 in
theorem Tryz.readLast_dots (b : Nat) (xs : List ByteArray) (x : ByteArray) (w : World) (hb : b < w.heap.size) (hcap2 : xs.length ≤ 4294967282) (hs : ∀ x ∈ xs, x.size < 4294967281)
    (hcl : ∀ (j : Nat) x, xs[j]? = some x → w.cell? ⟨b, j, none⟩ = some (.string x)) (henv : Tryz.Env w) (hx : xs[xs.length - 1]? = some x) (hno : decide (0 ≤ Lib.indexByte x.data.toList 46) = true) :
    Calls Tryz.prog 193 #[.slice (some ⟨b, 0, none⟩) xs.length xs.length] w fun e w' => Tryz.RowRes w.heap.size (sixJoin (sixPieces ((xs.map (·.data.toList)).dropLast)) (sixDotted x.data.toList)) e w' ∧ Below w.heap.size w w' := by
  have hc := hcl _ x hx
  have hxs := hs x (List.mem_of_getElem? hx)
  have HV : Hid (Tryz.Env w) := henv
  have hne : 1 ≤ xs.length := by
    cases xs with
    | nil => simp at hx
    | cons a l => simp
  have HCN : Hid (Calls Tryz.prog 230 #[.string x, .string ⟨#[46]⟩] w fun e w' => e = .returned (.bool true) ∧ w' = w) := by
    have := Tryz.strings_Contains_one x 46 w
    rw [hno] at this
    exact this
  have HCT : Hid (Calls Tryz.prog 191 #[.slice (some ⟨b, 0, none⟩) (xs.length - 1) xs.length] w fun e w' => Tryz.RowRes w.heap.size (sixPieces ((xs.map (·.data.toList)).dropLast)) e w' ∧ Below w.heap.size w w') := by
    have := Tryz.readPieces_row b xs.length xs.dropLast w hb (by simp) hcap2 (fun x hx => by have := hs x (List.dropLast_subset _ hx); unfold maxLen; omega) (by
      intro j y hj
      refine hcl j y ?_
      rw [List.getElem?_dropLast] at hj
      split at hj
      · exact hj
      · simp at hj) henv
    rw [List.length_dropLast, List.map_dropLast] at this
    exact this
  obtain ⟨i0, hi, hz0, hz1, hz2⟩ := info_parts Tryz.infoU64
  obtain ⟨L, hL⟩ : ∃ L, xs.length = L + 1 := ⟨xs.length - 1, by omega⟩
  rw [hL, Nat.add_sub_cancel] at HCT
  rw [hL, Nat.add_sub_cancel] at hc
  rw [hL]
  have hL2 : L + 1 ≤ 4294967282 := by omega
  have HPL : Hid (∀ ps, sixPieces ((xs.map (·.data.toList)).dropLast) = some ps → ps.length ≤ L) := by
    intro ps hp
    have := sixAcc_len _ _ _ hp
    simp at this
    omega
  generalize hgo : sixPieces ((xs.map (·.data.toList)).dropLast) = goal
  generalize hdo : sixDotted x.data.toList = dots
  have HD : Hid (sixDotted x.data.toList = dots) := hdo
  clear hdo
  rw [hgo] at HCT HPL
  clear hcl henv hs hx hno hgo hne hL hcap2
  go_enter Tryz.func193, Tryz.ntmps193
  go_wp2_with fail
  refine HCN.out.mono ?_
  rintro e w1 ⟨rfl, hw⟩
  have hw := hw.symm
  subst hw
  go_wp2_with fail
  refine HCT.out.mono ?_
  cases goal with
  | none =>
    rintro e w1 ⟨⟨te, ve, rfl⟩, hbw⟩
    go_wp2
    go_ret2
    refine ⟨?_, hbw⟩
    cases dots <;> exact ⟨_, _, rfl⟩
  | some ps =>
    rintro e w1 ⟨⟨v, rfl, hown⟩, hbw⟩
    have hpl := HPL.out ps rfl
    have HB : Hid (Below w.heap.size w w1) := hbw
    have HO : Hid (w1.ownsRow w.heap.size 151 1 v ps.length (ps.map (Value.int .u64))) := hown
    have hc1 : w1.cell? ⟨b, L, none⟩ = some (.string x) := (hbw.cell (by exact hb)).trans hc
    have hz1' := hbw.size
    have HV1 : Hid (Tryz.Env w1) := HV.out.below hbw
    clear hbw hown
    go_wp2_with fail
    refine (Tryz.readDotted_any x _ hxs HV1.out).mono ?_
    have hran := sixDotted_range x.data.toList
    rw [HD.out] at hran ⊢
    cases dots with
    | none =>
      rintro e w2 ⟨⟨te, ve, rfl⟩, hb2⟩
      have HB2 : Hid (Below w.heap.size w w2) := HB.out.trans (hb2.mono (by omega))
      have hc2 : w2.cell? ⟨b, L, none⟩ = some (.string x) := (hb2.cell (by show b < _; omega)).trans hc1
      clear hb2 hran
      go_wp2
      go_quiet (fail)
      go_wp2
      go_ret2
      exact ⟨⟨_, _, rfl⟩, Go.below_drewN HB2.out _⟩
    | some n =>
      rintro e w2 ⟨rfl, hb2⟩
      have hr := hran n rfl
      have HB2 : Hid (Below w.heap.size w w2) := HB.out.trans (hb2.mono (by omega))
      have HA : Hid (bits .and .u64 n 65535 = n % 65536) := and_low16 n hr.1 hr.2
      have HO2 := (own_below HO.out hb2).alloc (.cells #[.int .u64 (n / 65536), .int .u64 (bits .and .u64 n 65535)] 151)
      have hz2' := hb2.size
      clear hb2 hran
      go_wp2_with (at_builtin; refine wpList_append_own _ rfl _ _ 225 rfl w.heap.size 151 i0 (.int .u64 0) 1 8 Tryz.underlying225 hi hz0 hz1 hz2 rfl (by decide) _ _ _ rfl HO2 ⟨w2.heap.size, 0, none⟩ 2 2 [.int .u64 (n / 65536), .int .u64 (bits .and .u64 n 65535)] rfl rfl ?c1 ?c2 ?c3 ?c4 ?c5 ?_)
      case c1 =>
        intro j u hj
        match j, hj with
        | 0, hj => simp at hj; subst hj; exact World.cell?_alloc_new w2 _ 151 0
        | 1, hj => simp at hj; subst hj; exact World.cell?_alloc_new w2 _ 151 1
      case c2 => intro u hu; simp at hu; rcases hu with rfl | rfl <;> rfl
      case c3 => unfold maxLen; omega
      case c4 => omega
      case c5 => simp; omega
      intro v' w3 hown' hgrow _
      have HOW : Hid (w3.ownsRow w.heap.size 151 1 v' (ps.length + 2) (ps.map (Value.int .u64) ++ [.int .u64 (n / 65536), .int .u64 (bits .and .u64 n 65535)])) := hown'
      have HBB : Hid (Below w.heap.size w w3) := (HB2.out.alloc (by omega) _).grown hgrow (by simp; omega) (fun k hk => (HO2.lt k hk).1)
      clear hown' hgrow HO2
      go_wp2
      go_ret2
      refine ⟨⟨_, rfl, ?_⟩, HBB.out⟩
      have := HOW.out
      rw [HA.out] at this
      rw [List.length_append, List.map_append]
      exact this
theorem Tryz.readLast_any (B : Nat) (ls : List (List UInt8)) (v : Value) (w : World) (hv : Tryz.PieceRow B w ls v) (henv : Tryz.Env w) :
    Calls Tryz.prog 193 #[v] w fun e w' => Tryz.RowRes w.heap.size (sixLast ls) e w' ∧ Below w.heap.size w w' := by
  rcases hv with ⟨rfl, rfl⟩ | ⟨xs, rfl, hne, hlen, rfl, hcl, hB, hs⟩
  · refine (Tryz.readLast_nil w).mono ?_
    rintro e w' ⟨rfl, rfl⟩
    exact ⟨⟨_, rfl, World.ownsRow_nil _ _ _ _⟩, Below.refl _ _⟩
  · have hpos : 0 < xs.length := List.length_pos_iff.2 hne
    obtain ⟨x, hx⟩ : ∃ x, xs[xs.length - 1]? = some x := ⟨xs[xs.length - 1]'(by omega), by simp⟩
    have hl : (xs.map (·.data.toList)).getLast? = some x.data.toList := by
      rw [List.getLast?_map, List.getLast?_eq_getElem?, hx]; rfl
    unfold sixLast
    rw [hl]
    by_cases hno : 0 ≤ Lib.indexByte x.data.toList 46
    · simp only [hno, if_true]
      exact Tryz.readLast_dots B xs x w hB hlen hs hcl henv hx (by simpa using hno)
    · simp only [hno, if_false]
      exact Tryz.readLast_plain B xs x w hB hlen hs hcl henv hx (by simpa using hno)
theorem Tryz.readPieces_any (B : Nat) (ls : List (List UInt8)) (v : Value) (w : World) (hv : Tryz.PieceRow B w ls v) (henv : Tryz.Env w) :
    Calls Tryz.prog 191 #[v] w fun e w' => Tryz.RowRes w.heap.size (sixPieces ls) e w' ∧ Below w.heap.size w w' := by
  rcases hv with ⟨rfl, rfl⟩ | ⟨xs, rfl, hne, hlen, rfl, hcl, hB, hs⟩
  · refine (Tryz.readPieces_nil w).mono ?_
    rintro e w' ⟨rfl, rfl⟩
    exact ⟨⟨_, rfl, World.ownsRow_nil _ _ _ _⟩, Below.refl _ _⟩
  · exact Tryz.readPieces_row B xs.length xs w hB (Nat.le_refl _) hlen (fun x hx => by have := hs x hx; unfold maxLen; omega) hcl henv
end Go.Proofs
