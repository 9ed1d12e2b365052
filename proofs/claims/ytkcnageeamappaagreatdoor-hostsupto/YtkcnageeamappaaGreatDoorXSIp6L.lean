import Derived.Test.YtkcnageeamappaaGreatDoorXSLast
import Derived.Test.YtkcnageeamappaaGreatDoorXSIp6
import Derived.Laws.ResultCell
import Derived.Laws.Rows
import Derived.Test.YtkcnageeamappaaGreatDoorXQ4
namespace Go.Proofs
open Go.RowKit Go.Moor
def Tryz.Tz (w : World) : Prop := w.cell? ⟨28, 15, none⟩ = some (.int .u8 4)
theorem Tryz.Tz.below {w w' : World} (h : Tryz.Tz w) (hb : Below w.heap.size w w') (hz : 28 < w.heap.size) : Tryz.Tz w' := by
  show _ = _
  rw [hb.cell (p := ⟨28, 15, none⟩) hz]
  exact h
set_option maxHeartbeats 1000000 in
set_option maxRecDepth 100000 in
theorem Tryz.tz64_16 (w : World) (h : Tryz.Tz w) :
    Calls Tryz.prog 314 #[.int .u64 16] w fun e w' => e = .returned (.int .i64 4) ∧ w' = w := by
  have hc : w.cell? ⟨28, 15, none⟩ = some (.int .u8 4) := h
  have h0 : IntKind.u64.wrap (-16) = 18446744073709551600 := by kernel_rfl
  have h1 : bits .and .u64 16 18446744073709551600 = 16 := by kernel_rfl
  have h2 : IntKind.u64.wrap 4573923408821661840 = 4573923408821661840 := by kernel_rfl
  clear h
  go_enter Tryz.func314, Tryz.ntmps314
  go_wp2
  go_ret
  exact ⟨rfl, rfl⟩
set_option maxHeartbeats 1000000 in
theorem Tryz.tz_16 (w : World) (h : Tryz.Tz w) :
    Calls Tryz.prog 292 #[.int .u64 16] w fun e w' => e = .returned (.int .i64 4) ∧ w' = w := by
  have H : Hid (Tryz.Tz w) := h
  clear h
  go_enter Tryz.func292, Tryz.ntmps292
  go_wp2_with (go_at_call 314; refine (Tryz.tz64_16 _ H.out).mono ?_; rintro e w' ⟨rfl, rfl⟩)
  go_ret
  exact ⟨rfl, rfl⟩
set_option maxHeartbeats 1000000 in
theorem Tryz.pow2_16 (w : World) :
    Calls Tryz.prog 291 #[.int .i64 16] w fun e w' => e = .returned (.bool true) ∧ w' = w := by
  have h1 : bits .and .i64 16 15 = 0 := by kernel_rfl
  go_enter Tryz.func291, Tryz.ntmps291
  go_wp2
  go_ret
  exact ⟨rfl, rfl⟩
theorem and_low4 (v : Nat) (h : v < 65536) : bits .and .u64 (v : Int) 15 = ((v % 16 : Nat) : Int) := by
  rw [show (15 : Int) = ((15 : Nat) : Int) from rfl, u64_and_nat v 15 (by omega) (by omega), show (15 : Nat) = 2 ^ 4 - 1 from rfl, Nat.and_two_pow_sub_one_eq_mod]
theorem dig36 (m : Nat) (h : m < (⟨#[48, 49, 50, 51, 52, 53, 54, 55, 56, 57, 97, 98, 99, 100, 101, 102, 103, 104, 105, 106, 107, 108, 109, 110, 111, 112, 113, 114, 115, 116, 117, 118, 119, 120, 121, 122]⟩ : ByteArray).size) (h16 : m < 16) : (⟨#[48, 49, 50, 51, 52, 53, 54, 55, 56, 57, 97, 98, 99, 100, 101, 102, 103, 104, 105, 106, 107, 108, 109, 110, 111, 112, 113, 114, 115, 116, 117, 118, 119, 120, 121, 122]⟩ : ByteArray)[m] = hexL m := by
  match m, h16 with
  | 0, _ => rfl
  | 1, _ => rfl
  | 2, _ => rfl
  | 3, _ => rfl
  | 4, _ => rfl
  | 5, _ => rfl
  | 6, _ => rfl
  | 7, _ => rfl
  | 8, _ => rfl
  | 9, _ => rfl
  | 10, _ => rfl
  | 11, _ => rfl
  | 12, _ => rfl
  | 13, _ => rfl
  | 14, _ => rfl
  | 15, _ => rfl
  | m + 16, h => exact absurd h (by omega)
theorem Tryz.len65 : Tryz.prog.arrayLen 285 = 65 := by kernel_rfl
theorem Tryz.elem65 : Tryz.prog.elem 285 = 5 := by kernel_rfl
theorem Tryz.array65 : Tryz.prog.underlying 285 = some (.array (Tryz.prog.arrayLen 285) (Tryz.prog.elem 285)) := by rw [Tryz.len65, Tryz.elem65]; exact Tryz.underlying285
theorem Tryz.sizeU8 : (Tryz.prog.info? 5).map (·.size) = some 1 := by kernel_rfl
theorem Tryz.sizeRun8 (w : World) : (sizeOf 5).run Tryz.prog w = .ok 1 w := by
  have h := Tryz.sizeU8
  cases hq : Tryz.prog.info? 5 with
  | none => rw [hq] at h; simp at h
  | some i =>
    rw [hq] at h
    have : i.size = 1 := by simpa using h
    simp [sizeOf, typeInfo, hq, this]
theorem Tryz.slice65_low (g d n : Nat) (hd : d < 65) (hn : d + n = 65) (w : World) : (Instr.sliceAt 285 (.pointer (some ⟨g, 0, none⟩)) (some (.int .i64 d)) none none).run Tryz.prog w = .ok (.slice (some ⟨g, d, none⟩) n n) w := by
  rw [run_sliceAt_array_l w 285 ⟨g, 0, none⟩ Tryz.array65 .i64 d (by omega) (by rw [Tryz.len65]; omega), Tryz.elem65, Tryz.sizeRun8, Tryz.len65]
  simp only [Result.andThen, slicedAt, Int.toNat_natCast, Nat.mul_one]
  rw [if_neg (by omega), show (⟨g, 0, none⟩ : Addr).add d = ⟨g, d, none⟩ by unfold Addr.add; split <;> simp_all, show 65 - d = n by omega]
set_option maxHeartbeats 4000000 in
set_option maxRecDepth 100000 in
theorem Tryz.fmtBits16 (u : Nat) (hu : u < 65536) (w : World) (henv : Tryz.Env w) (htz : Tryz.Tz w) :
    Calls Tryz.prog 257 #[.slice none 0 0, .int .u64 u, .int .i64 16, .bool false, .bool false] w fun e w' => e = .returned (.tuple #[.slice none 0 0, .string ⟨(digsF 16 3 u).toArray⟩]) ∧ Below w.heap.size w w' := by
  have HV : Hid (Tryz.Env w) := henv
  have HT : Hid (Tryz.Tz w) := htz
  have HT1 : Hid (Tryz.Tz (w.alloc (.cells Tryz.zeroCells285 285))) := HT.out.below ((Below.refl _ w).alloc (Nat.le_refl _) _) (by have := HV.out.size; omega)
  clear henv htz
  go_enter Tryz.func257, Tryz.ntmps257
  go_wp2_with fail
  refine (Tryz.pow2_16 _).mono ?_
  rintro e w1 ⟨rfl, hw1⟩
  have hw1 := hw1.symm
  subst hw1
  go_wp2_with fail
  refine (Tryz.tz_16 _ HT1.out).mono ?_
  rintro e w1 ⟨rfl, hw1⟩
  have hw1 := hw1.symm
  subst hw1
  go_wp2
  go_loopw [1, 13] (fun t i wr => ∃ (v k n : Nat) (ds : List UInt8), t = .int .u64 v ∧ i = .int .i64 n ∧ n + k = 65 ∧ k ≤ 3 ∧ ds.length = k ∧ v < 16 ^ (4 - k) ∧ digsF 16 (3 - k) v ++ ds = digsF 16 3 u ∧ (∀ j, j < 65 → (wr.cell? ⟨w.heap.size, j, none⟩).isSome = true) ∧ (∀ j, j < 65 → wr.frozen? ⟨w.heap.size, j, none⟩ = false) ∧ (∀ (j : Nat) x, ds[j]? = some x → wr.cell? ⟨w.heap.size, n + j, none⟩ = some (.int .u8 (x.toNat : Int))) ∧ Below w.heap.size w wr) (fun t _ _ => (intOf t).toNat)
  case atStart =>
    refine ⟨u, 0, 65, [], rfl, rfl, rfl, by omega, rfl, by simpa using hu, by simp, ?_, ?_, by simp, (Below.refl _ w).alloc (Nat.le_refl _) _⟩
    · intro j hj
      rw [World.cell?_alloc_new]
      simp
      exact hj
    · intro j hj
      exact World.frozen?_alloc_new _ _ _ _
  case round =>
    obtain ⟨v, k, n, ds, rfl, rfl, hnk, hk3, hdl, hv, hdig, hcs, hfs, hcl, hbw⟩ := hrel
    have HDIG : Hid (digsF 16 (3 - k) v ++ ds = digsF 16 3 u) := hdig
    have HCS : Hid (∀ j, j < 65 → (wr.cell? ⟨w.heap.size, j, none⟩).isSome = true) := hcs
    have HFS : Hid (∀ j, j < 65 → wr.frozen? ⟨w.heap.size, j, none⟩ = false) := hfs
    have HCL : Hid (∀ (j : Nat) x, ds[j]? = some x → wr.cell? ⟨w.heap.size, n + j, none⟩ = some (.int .u8 (x.toNat : Int))) := hcl
    have HV4 : Hid (v < 16 ^ (4 - k)) := hv
    have hv5 : v < 65536 := Nat.lt_of_lt_of_le hv (by
      have : k = 0 ∨ k = 1 ∨ k = 2 ∨ k = 3 := by omega
      rcases this with rfl | rfl | rfl | rfl <;> decide)
    obtain ⟨p, rfl⟩ : ∃ p, n = p + 1 := ⟨n - 1, by omega⟩
    obtain ⟨c, hc⟩ := Option.isSome_iff_exists.1 (hcs p (by omega))
    have hf := hfs p (by omega)
    have hp65 : p < 65 := by omega
    clear hdig hcs hfs hcl hv
    by_cases h16 : 16 ≤ v
    · have HA : Hid (bits .and .u64 (v : Int) 15 = ((v % 16 : Nat) : Int)) := and_low4 v hv5
      have hA := HA.out
      go_wp2
      go_roundw
      case rel =>
        have hk2 : k ≤ 2 := by
          rcases (show k ≤ 2 ∨ k = 3 by omega) with h | h
          · exact h
          · exfalso
            have h3 := HV4.out
            rw [h] at h3
            have h4 : v < 16 := h3
            omega
        refine ⟨v / 16, k + 1, p, hexL (v % 16) :: ds, by simp, rfl, by omega, by omega, by simp [hdl], ?_, ?_, ?_, ?_, ?_, hbw.setCell (Nat.le_refl _) _⟩
        · have h1 := HV4.out
          rw [show 4 - k = (4 - (k + 1)) + 1 by omega, Nat.pow_succ] at h1
          rw [Nat.mul_comm] at h1
          exact Nat.div_lt_of_lt_mul h1
        · have h1 := HDIG.out
          rw [show 3 - k = (3 - (k + 1)) + 1 by omega, digsF, if_neg (by omega), List.append_assoc] at h1
          exact h1
        · intro j hj
          by_cases hjp : j = p
          · subst hjp
            rw [World.cell?_setCell_same _ _ _ hc]; rfl
          · rw [World.cell?_setCell_other _ _ _ _ (by intro h; cases h; exact hjp rfl)]
            exact HCS.out j hj
        · intro j hj
          rw [World.frozen?_setCell]
          exact HFS.out j hj
        · intro j x hx
          match j, hx with
          | 0, hx =>
            simp at hx
            subst hx
            exact (World.cell?_setCell_same _ _ _ hc).trans (by rw [dig36 _ _ (by omega)])
          | j + 1, hx =>
            rw [World.cell?_setCell_other _ _ _ _ (by intro h; cases h), show p + (j + 1) = p + 1 + j by omega]
            exact HCL.out j x (by simpa using hx)
      case measure => simp [intOf]; omega
    · have hs36 : v < (⟨#[48, 49, 50, 51, 52, 53, 54, 55, 56, 57, 97, 98, 99, 100, 101, 102, 103, 104, 105, 106, 107, 108, 109, 110, 111, 112, 113, 114, 115, 116, 117, 118, 119, 120, 121, 122]⟩ : ByteArray).size := by show v < 36; omega
      have hsl := Tryz.slice65_low w.heap.size p (k + 1) (by omega) (by omega) (wr.setCell ⟨w.heap.size, p, none⟩ (.int .u8 ((⟨#[48, 49, 50, 51, 52, 53, 54, 55, 56, 57, 97, 98, 99, 100, 101, 102, 103, 104, 105, 106, 107, 108, 109, 110, 111, 112, 113, 114, 115, 116, 117, 118, 119, 120, 121, 122]⟩ : ByteArray)[v].toNat : Int)))
      have hcv : (convert 47 9 (.slice (some ⟨w.heap.size, p, none⟩) (k + 1) (k + 1))).run Tryz.prog (wr.setCell ⟨w.heap.size, p, none⟩ (.int .u8 ((⟨#[48, 49, 50, 51, 52, 53, 54, 55, 56, 57, 97, 98, 99, 100, 101, 102, 103, 104, 105, 106, 107, 108, 109, 110, 111, 112, 113, 114, 115, 116, 117, 118, 119, 120, 121, 122]⟩ : ByteArray)[v].toNat : Int))) = .ok (.string ⟨(hexL v :: ds).toArray⟩) (wr.setCell ⟨w.heap.size, p, none⟩ (.int .u8 ((⟨#[48, 49, 50, 51, 52, 53, 54, 55, 56, 57, 97, 98, 99, 100, 101, 102, 103, 104, 105, 106, 107, 108, 109, 110, 111, 112, 113, 114, 115, 116, 117, 118, 119, 120, 121, 122]⟩ : ByteArray)[v].toNat : Int))) := by
        have h := run_convert_bytes_back (P := Tryz.prog) (wr.setCell ⟨w.heap.size, p, none⟩ (.int .u8 ((⟨#[48, 49, 50, 51, 52, 53, 54, 55, 56, 57, 97, 98, 99, 100, 101, 102, 103, 104, 105, 106, 107, 108, 109, 110, 111, 112, 113, 114, 115, 116, 117, 118, 119, 120, 121, 122]⟩ : ByteArray)[v].toNat : Int))) 47 9 5 ⟨w.heap.size, p, none⟩ (k + 1) (hexL v :: ds) Tryz.underlying47 Tryz.underlying5 Tryz.underlying9 (fun j hj => by
          rw [show (⟨w.heap.size, p, none⟩ : Addr).add j = ⟨w.heap.size, p + j, none⟩ by unfold Addr.add; split <;> simp_all]
          match j, hj with
          | 0, _ => exact (World.cell?_setCell_same _ _ _ hc).trans (by rw [dig36 _ _ (by omega)]; rfl)
          | j + 1, hj =>
            rw [World.cell?_setCell_other _ _ _ _ (by intro h; cases h), show p + (j + 1) = p + 1 + j by omega]
            exact HCL.out j _ (by simp))
        rw [List.length_cons, hdl] at h
        exact h
      have HFIN : Hid (hexL v :: ds = digsF 16 3 u) := by
        show _ = _
        rw [← HDIG.out]
        have : digsF 16 (3 - k) v = [hexL v] := by
          cases h3 : 3 - k with
          | zero => rfl
          | succ m => unfold digsF; rw [if_pos (by omega)]
        rw [this]
        rfl
      go_wp2
      go_ret2
      refine ⟨?_, hbw.setCell (Nat.le_refl _) _⟩
      rw [HFIN.out]
      rfl
set_option maxHeartbeats 1000000 in
theorem Tryz.fmt16_inner (u : Nat) (hu : u < 65536) (w : World) (henv : Tryz.Env w) (htz : Tryz.Tz w) :
    Calls Tryz.prog 239 #[.int .u64 u, .int .i64 16] w fun e w' => e = .returned (.string ⟨(digsF 16 3 u).toArray⟩) ∧ Below w.heap.size w w' := by
  have HV : Hid (Tryz.Env w) := henv
  have HT : Hid (Tryz.Tz w) := htz
  clear henv htz
  go_enter Tryz.func239, Tryz.ntmps239
  go_wp2_with fail
  refine (Tryz.fmtBits16 u hu _ HV.out HT.out).mono ?_
  rintro e w' ⟨rfl, hb⟩
  go_wp2
  go_ret
  exact ⟨rfl, hb⟩
set_option maxHeartbeats 1000000 in
theorem Tryz.fmt16_any (u : Nat) (hu : u < 65536) (w : World) (henv : Tryz.Env w) (htz : Tryz.Tz w) :
    Calls Tryz.prog 203 #[.int .u64 u, .int .i64 16] w fun e w' => e = .returned (.string ⟨(digsF 16 3 u).toArray⟩) ∧ Below w.heap.size w w' := by
  have HV : Hid (Tryz.Env w) := henv
  have HT : Hid (Tryz.Tz w) := htz
  clear henv htz
  go_enter Tryz.func203, Tryz.ntmps203
  go_wp2_with fail
  refine (Tryz.fmt16_inner u hu _ HV.out HT.out).mono ?_
  rintro e w' ⟨rfl, hb⟩
  go_wp2
  go_ret
  exact ⟨rfl, hb⟩
end Go.Proofs
namespace Go.Proofs
open Go.RowKit Go.Moor
structure Tryz.Env2 (w : World) : Prop where
  env : Tryz.Env w
  tz : Tryz.Tz w
  u8 : Lib.Utf8Tabs 21 22 w
  eBase : Tryz.Err 6 w
  eOpaque : Tryz.Err 15 w
  eHost : Tryz.Err 12 w
  eSyntax : Tryz.Err 25 w
  eRange : Tryz.Err 26 w
end Go.Proofs
namespace Go.Proofs
open Go.RowKit Go.Moor
theorem frozen_heap {w : World} {g : Nat} {cs : Array Value} {t : TypeId} (h : w.heap[g]? = some (.cells cs t (0, 0))) (j : Nat) : w.frozen? ⟨g, j, none⟩ = false := by
  simp [World.frozen?, h]
end Go.Proofs
namespace Go.Proofs
open Go.RowKit Go.Moor
theorem prefix_head (l : Bs) : Lib.hasPrefix l [91] = decide (l.head? = some 91) := by
  unfold Lib.hasPrefix
  cases l with
  | nil => rfl
  | cons c l =>
    show ((91 == c) && List.isPrefixOf [] l) = _
    by_cases h : c = 91
    · subst h; simp
    · have h2 : ¬ (91 : UInt8) = c := fun e => h e.symm
      simp [h, h2]
end Go.Proofs
namespace Go.Proofs
open Go.RowKit Go.Moor
theorem cut_len (l p : List UInt8) : (Lib.cut l p).1.length ≤ l.length ∧ (Lib.cut l p).2.1.length ≤ l.length := by
  unfold Lib.cut
  split
  · simp
    omega
  · simp
set_option maxHeartbeats 4000000 in
set_option maxRecDepth 100000 in
theorem Tryz.readIP6_long (s : ByteArray) (X Y : List UInt8) (w : World) (hs : s.size < 4294967281) (henv : Tryz.Env w) (hcut : Lib.cut s.data.toList [58, 58] = (X, Y, false)) :
    Calls Tryz.prog 139 #[.string s] w fun e w' => Tryz.SixRes (sixFill false (sixPieces (sixSplit (⟨#[]⟩ : ByteArray).data.toList)) (sixLast (sixSplit s.data.toList))) e ∧ Below w.heap.size w w' := by
  have HV : Hid (Tryz.Env w) := henv
  have HB3 : Hid (Below w.heap.size w (((w.alloc (.cells #[.int .u64 0, .int .u64 0, .int .u64 0, .int .u64 0, .int .u64 0, .int .u64 0, .int .u64 0, .int .u64 0] 177)).alloc (.cells #[.int .u64 0, .int .u64 0, .int .u64 0, .int .u64 0, .int .u64 0, .int .u64 0, .int .u64 0, .int .u64 0] 177)).alloc (.cells #[.int .u64 0, .int .u64 0, .int .u64 0, .int .u64 0, .int .u64 0, .int .u64 0, .int .u64 0, .int .u64 0] 177))) := (((Below.refl _ w).alloc (Nat.le_refl _) _).alloc (by simp) _).alloc (by simp; omega) _
  have HV3 : Hid (Tryz.Env (((w.alloc (.cells #[.int .u64 0, .int .u64 0, .int .u64 0, .int .u64 0, .int .u64 0, .int .u64 0, .int .u64 0, .int .u64 0] 177)).alloc (.cells #[.int .u64 0, .int .u64 0, .int .u64 0, .int .u64 0, .int .u64 0, .int .u64 0, .int .u64 0, .int .u64 0] 177)).alloc (.cells #[.int .u64 0, .int .u64 0, .int .u64 0, .int .u64 0, .int .u64 0, .int .u64 0, .int .u64 0, .int .u64 0] 177))) := HV.out.below HB3.out
  obtain ⟨m, hm⟩ := HV3.out.maxLen
  have HCUT : Hid (Calls Tryz.prog 112 #[.string s, .string ⟨#[58, 58]⟩] (((w.alloc (.cells #[.int .u64 0, .int .u64 0, .int .u64 0, .int .u64 0, .int .u64 0, .int .u64 0, .int .u64 0, .int .u64 0] 177)).alloc (.cells #[.int .u64 0, .int .u64 0, .int .u64 0, .int .u64 0, .int .u64 0, .int .u64 0, .int .u64 0, .int .u64 0] 177)).alloc (.cells #[.int .u64 0, .int .u64 0, .int .u64 0, .int .u64 0, .int .u64 0, .int .u64 0, .int .u64 0, .int .u64 0] 177)) fun e w' => e = .returned (.tuple #[.string ⟨X.toArray⟩, .string ⟨Y.toArray⟩, .bool false]) ∧ ∃ n, w' = (((w.alloc (.cells #[.int .u64 0, .int .u64 0, .int .u64 0, .int .u64 0, .int .u64 0, .int .u64 0, .int .u64 0, .int .u64 0] 177)).alloc (.cells #[.int .u64 0, .int .u64 0, .int .u64 0, .int .u64 0, .int .u64 0, .int .u64 0, .int .u64 0, .int .u64 0] 177)).alloc (.cells #[.int .u64 0, .int .u64 0, .int .u64 0, .int .u64 0, .int .u64 0, .int .u64 0, .int .u64 0, .int .u64 0] 177)).drewN n) := by
    have := Tryz.strings_Cut s ⟨#[58, 58]⟩ m (((w.alloc (.cells #[.int .u64 0, .int .u64 0, .int .u64 0, .int .u64 0, .int .u64 0, .int .u64 0, .int .u64 0, .int .u64 0] 177)).alloc (.cells #[.int .u64 0, .int .u64 0, .int .u64 0, .int .u64 0, .int .u64 0, .int .u64 0, .int .u64 0, .int .u64 0] 177)).alloc (.cells #[.int .u64 0, .int .u64 0, .int .u64 0, .int .u64 0, .int .u64 0, .int .u64 0, .int .u64 0, .int .u64 0] 177)) hs hm
    rw [show (⟨#[58, 58]⟩ : ByteArray).data.toList = [58, 58] from rfl, hcut] at this
    exact this
  have HZ0 : Hid ((((w.alloc (.cells #[.int .u64 0, .int .u64 0, .int .u64 0, .int .u64 0, .int .u64 0, .int .u64 0, .int .u64 0, .int .u64 0] 177)).alloc (.cells #[.int .u64 0, .int .u64 0, .int .u64 0, .int .u64 0, .int .u64 0, .int .u64 0, .int .u64 0, .int .u64 0] 177)).alloc (.cells #[.int .u64 0, .int .u64 0, .int .u64 0, .int .u64 0, .int .u64 0, .int .u64 0, .int .u64 0, .int .u64 0] 177)).heap[w.heap.size]? = some (.cells (cells8 zero8) 177 (0, 0))) := (three_blocks w _ _ _).1
  have HZ1 : Hid ((((w.alloc (.cells #[.int .u64 0, .int .u64 0, .int .u64 0, .int .u64 0, .int .u64 0, .int .u64 0, .int .u64 0, .int .u64 0] 177)).alloc (.cells #[.int .u64 0, .int .u64 0, .int .u64 0, .int .u64 0, .int .u64 0, .int .u64 0, .int .u64 0, .int .u64 0] 177)).alloc (.cells #[.int .u64 0, .int .u64 0, .int .u64 0, .int .u64 0, .int .u64 0, .int .u64 0, .int .u64 0, .int .u64 0] 177)).heap[w.heap.size + 1]? = some (.cells (cells8 zero8) 177 (0, 0))) := (three_blocks w _ _ _).2.1
  have HZ2 : Hid ((((w.alloc (.cells #[.int .u64 0, .int .u64 0, .int .u64 0, .int .u64 0, .int .u64 0, .int .u64 0, .int .u64 0, .int .u64 0] 177)).alloc (.cells #[.int .u64 0, .int .u64 0, .int .u64 0, .int .u64 0, .int .u64 0, .int .u64 0, .int .u64 0, .int .u64 0] 177)).alloc (.cells #[.int .u64 0, .int .u64 0, .int .u64 0, .int .u64 0, .int .u64 0, .int .u64 0, .int .u64 0, .int .u64 0] 177)).heap[w.heap.size + 2]? = some (.cells (cells8 zero8) 177 (0, 0))) := (three_blocks w _ _ _).2.2.1
  have HS3 : Hid ((((w.alloc (.cells #[.int .u64 0, .int .u64 0, .int .u64 0, .int .u64 0, .int .u64 0, .int .u64 0, .int .u64 0, .int .u64 0] 177)).alloc (.cells #[.int .u64 0, .int .u64 0, .int .u64 0, .int .u64 0, .int .u64 0, .int .u64 0, .int .u64 0, .int .u64 0] 177)).alloc (.cells #[.int .u64 0, .int .u64 0, .int .u64 0, .int .u64 0, .int .u64 0, .int .u64 0, .int .u64 0, .int .u64 0] 177)).heap.size = w.heap.size + 3) := (three_blocks w _ _ _).2.2.2
  generalize hfo : sixPieces (sixSplit (⟨#[]⟩ : ByteArray).data.toList) = fo
  generalize hgo : sixLast (sixSplit s.data.toList) = go
  have HFO : Hid (sixPieces (sixSplit (⟨#[]⟩ : ByteArray).data.toList) = fo) := hfo
  have HGO : Hid (sixLast (sixSplit s.data.toList) = go) := hgo
  clear henv hm hcut hfo hgo
  go_enter Tryz.func139, Tryz.ntmps139
  go_wp2_with fail
  refine HCUT.out.mono ?_
  rintro e w1 ⟨rfl, nd, hw1⟩
  have HB1 : Hid (Below w.heap.size w w1) := by rw [hw1]; exact Go.below_drewN HB3.out nd
  have HV1 : Hid (Tryz.Env w1) := HV.out.below HB1.out
  have HY0 : Hid (w1.heap[w.heap.size]? = some (.cells (cells8 zero8) 177 (0, 0))) := by rw [hw1]; exact HZ0.out
  have HY1 : Hid (w1.heap[w.heap.size + 1]? = some (.cells (cells8 zero8) 177 (0, 0))) := by rw [hw1]; exact HZ1.out
  have HY2 : Hid (w1.heap[w.heap.size + 2]? = some (.cells (cells8 zero8) 177 (0, 0))) := by rw [hw1]; exact HZ2.out
  have hs1 : w1.heap.size = w.heap.size + 3 := by rw [hw1]; exact HS3.out
  have HSZ : Hid (w1.heap.size = w.heap.size + 3) := hs1
  clear hw1 hs1 HZ0 HZ1 HZ2 HS3 HV3 HB3 HCUT
  obtain ⟨m1, hm1⟩ := HV1.out.maxLen
  have HM1 : Hid (w1.cell? ⟨16, 0, none⟩ = some (.int .i64 m1)) := hm1
  clear hm1
  go_wp2_with fail
  refine (Tryz.splitPieces_any ⟨#[]⟩ m1 _ (by decide) HM1.out).mono ?_
  rintro e w2 ⟨⟨v2, rfl, hrow2⟩, hb2⟩
  have HR2 : Hid (Tryz.PieceRow w1.heap.size w2 (sixSplit (⟨#[]⟩ : ByteArray).data.toList) v2) := hrow2
  have HB2 : Hid (Below w1.heap.size w1 w2) := hb2
  have HV2 : Hid (Tryz.Env w2) := HV1.out.below HB2.out
  clear hrow2 hb2
  go_wp2_with fail
  refine (Tryz.readPieces_any _ _ v2 _ HR2.out HV2.out).mono ?_
  rw [HFO.out]
  cases fo with
  | none =>
    rintro e w3 ⟨⟨te, ve, rfl⟩, hb3⟩
    have HBB : Hid (Below w1.heap.size w1 w3) := HB2.out.trans (hb3.mono (HB2.out.size))
    have HX0 : Hid (w3.heap[w.heap.size]? = some (.cells (cells8 zero8) 177 (0, 0))) := (HBB.out.block _ (by rw [HSZ.out]; omega)).trans HY0.out
    have HX1 : Hid (w3.heap[w.heap.size + 1]? = some (.cells (cells8 zero8) 177 (0, 0))) := (HBB.out.block _ (by rw [HSZ.out]; omega)).trans HY1.out
    clear hb3
    go_wp2_with (first | refine wpList_load_row rfl 177 _ rfl (w.heap.size + 1) rfl 177 (cells8 zero8) (0, 0) _ HX1.out Tryz.underlying177 rfl Tryz.size8 ?_ | refine wpList_store_row rfl 177 _ _ rfl w.heap.size (cells8 zero8) rfl rfl 177 (cells8 zero8) HX0.out Tryz.size8 rfl (cells8_one _) ?_)
    (try simp only [Exit.inBlock, Exit.then])
    have hld := run_loadVar_row (P := Tryz.prog) (w3.setRow w.heap.size (cells8 zero8)) w.heap.size 177 177 (cells8 zero8) (0, 0) _ (setRow_heap w3 w.heap.size (cells8 zero8) (cells8 zero8) 177 (0, 0) HX0.out) Tryz.underlying177 rfl Tryz.size8
    refine bodyPost_ret (v := .tuple #[.agg (cells8 zero8), .iface te ve]) ?_ rfl ⟨⟨_, _, rfl⟩, below_setRow (HB1.out.trans (HBB.out.mono (by rw [HSZ.out]; omega))) (Nat.le_refl _) _⟩
    rw [results_cell_tmp rfl]
    simp [asAddr, Result.andThen, hld]
  | some f =>
    rintro e w3 ⟨⟨v3, rfl, hown⟩, hb3⟩
    have HBB3 : Hid (Below w1.heap.size w1 w3) := HB2.out.trans (hb3.mono (HB2.out.size))
    obtain ⟨sp3, cap3, rfl, hf3⟩ := own_form hown
    have HF3 : Hid (0 < f.length → ∃ g, sp3 = some ⟨g, 0, none⟩ ∧ w2.heap.size ≤ g ∧ ∀ j u, (f.map (Value.int .u64))[j]? = some u → w3.cell? ⟨g, j, none⟩ = some u) := hf3
    have hfl : f.length ≤ 4294967283 := by
      have := sixAcc_len _ _ _ HFO.out
      have h2 := sixSplit_len (⟨#[]⟩ : ByteArray).data.toList
      simp at this h2
      omega
    have HV3 : Hid (Tryz.Env w3) := HV1.out.below HBB3.out
    obtain ⟨m3, hm3⟩ := HV3.out.maxLen
    have HM3 : Hid (w3.cell? ⟨16, 0, none⟩ = some (.int .i64 m3)) := hm3
    clear hm3 hb3 hown hf3
    go_wp2_with fail
    refine (Tryz.splitPieces_any s m3 _ hs HM3.out).mono ?_
    rintro e w4 ⟨⟨v4, rfl, hrow4⟩, hb4⟩
    have HR4 : Hid (Tryz.PieceRow w3.heap.size w4 (sixSplit s.data.toList) v4) := hrow4
    have HB4 : Hid (Below w3.heap.size w3 w4) := hb4
    have HV4 : Hid (Tryz.Env w4) := HV3.out.below HB4.out
    clear hrow4 hb4
    go_wp2_with fail
    refine (Tryz.readLast_any _ _ v4 _ HR4.out HV4.out).mono ?_
    rw [HGO.out]
    cases go with
    | none =>
      rintro e w5 ⟨⟨te, ve, rfl⟩, hb5⟩
      have HBB : Hid (Below w1.heap.size w1 w5) := HBB3.out.trans ((HB4.out.trans (hb5.mono HB4.out.size)).mono HBB3.out.size)
      have HX0 : Hid (w5.heap[w.heap.size]? = some (.cells (cells8 zero8) 177 (0, 0))) := (HBB.out.block _ (by rw [HSZ.out]; omega)).trans HY0.out
      have HX1 : Hid (w5.heap[w.heap.size + 1]? = some (.cells (cells8 zero8) 177 (0, 0))) := (HBB.out.block _ (by rw [HSZ.out]; omega)).trans HY1.out
      clear hb5
      go_wp2_with (first | refine wpList_load_row rfl 177 _ rfl (w.heap.size + 1) rfl 177 (cells8 zero8) (0, 0) _ HX1.out Tryz.underlying177 rfl Tryz.size8 ?_ | refine wpList_store_row rfl 177 _ _ rfl w.heap.size (cells8 zero8) rfl rfl 177 (cells8 zero8) HX0.out Tryz.size8 rfl (cells8_one _) ?_)
      (try simp only [Exit.inBlock, Exit.then])
      have hld := run_loadVar_row (P := Tryz.prog) (w5.setRow w.heap.size (cells8 zero8)) w.heap.size 177 177 (cells8 zero8) (0, 0) _ (setRow_heap w5 w.heap.size (cells8 zero8) (cells8 zero8) 177 (0, 0) HX0.out) Tryz.underlying177 rfl Tryz.size8
      refine bodyPost_ret (v := .tuple #[.agg (cells8 zero8), .iface te ve]) ?_ rfl ⟨⟨_, _, rfl⟩, below_setRow (HB1.out.trans (HBB.out.mono (by rw [HSZ.out]; omega))) (Nat.le_refl _) _⟩
      rw [results_cell_tmp rfl]
      simp [asAddr, Result.andThen, hld]
    | some g =>
      rintro e w5 ⟨⟨v5, rfl, hown5⟩, hb5⟩
      have HB35 : Hid (Below w3.heap.size w3 w5) := HB4.out.trans (hb5.mono HB4.out.size)
      have HBB : Hid (Below w1.heap.size w1 w5) := HBB3.out.trans (HB35.out.mono HBB3.out.size)
      obtain ⟨sp5, cap5, rfl, hf5⟩ := own_form hown5
      have HF5 : Hid (0 < g.length → ∃ k, sp5 = some ⟨k, 0, none⟩ ∧ w4.heap.size ≤ k ∧ ∀ j u, (g.map (Value.int .u64))[j]? = some u → w5.cell? ⟨k, j, none⟩ = some u) := hf5
      have HX0 : Hid (w5.heap[w.heap.size]? = some (.cells (cells8 zero8) 177 (0, 0))) := (HBB.out.block _ (by rw [HSZ.out]; omega)).trans HY0.out
      have HX1 : Hid (w5.heap[w.heap.size + 1]? = some (.cells (cells8 zero8) 177 (0, 0))) := (HBB.out.block _ (by rw [HSZ.out]; omega)).trans HY1.out
      have HX2 : Hid (w5.heap[w.heap.size + 1 + 1]? = some (.cells (cells8 zero8) 177 (0, 0))) := (HBB.out.block _ (by rw [HSZ.out]; omega)).trans HY2.out
      have hgl : g.length ≤ 4294967285 := by
        have := sixLast_len _ _ HGO.out
        have h2 := sixSplit_len s.data.toList
        simp at this h2
        omega
      clear hb5 hown5 hf5
      go_wp2_with fail
      refine (Tryz.rightCount_any _ false _).mono ?_
      rintro e w6 ⟨rfl, hw6⟩
      have hw6 := hw6.symm
      subst hw6
      by_cases hcount : ((f.length : Int) + (g.length : Int) == 8) = true
      · have hcl : f.length + g.length ≤ 8 := by
          simp at hcount
          omega
        have HCO : Hid (((f.length : Int) + (g.length : Int) == 8) = true) := hcount
        have HFX : Hid (0 < f.length → ∃ k, sp3 = some ⟨k, 0, none⟩ ∧ w.heap.size + 1 + 1 < k ∧ ∀ j u, (f.map (Value.int .u64))[j]? = some u → w5.cell? ⟨k, j, none⟩ = some u) := by
          intro h
          obtain ⟨k, h1, h2, h3⟩ := HF3.out h
          have h4 := HB2.out.size
          rw [HSZ.out] at h4
          refine ⟨k, h1, by omega, fun j u hj => ?_⟩
          have hz := h3 j u hj
          exact (HB35.out.cell (by exact block_lt_of_cell hz)).trans hz
        have HGX : Hid (0 < g.length → ∃ k, sp5 = some ⟨k, 0, none⟩ ∧ w.heap.size + 1 + 1 < k ∧ ∀ j u, (g.map (Value.int .u64))[j]? = some u → w5.cell? ⟨k, j, none⟩ = some u) := by
          intro h
          obtain ⟨k, h1, h2, h3⟩ := HF5.out h
          have h4 := HB2.out.size
          have h5 := HBB3.out.size
          have h6 := HB4.out.size
          rw [HSZ.out] at h4 h5
          exact ⟨k, h1, by omega, h3⟩
        obtain ⟨F, hF⟩ : ∃ F, F = f.map (Value.int .u64) := ⟨_, rfl⟩
        obtain ⟨G, hG⟩ : ∃ G, G = g.map (Value.int .u64) := ⟨_, rfl⟩
        have hFl : F.length = f.length := by rw [hF]; simp
        have hGl : G.length = g.length := by rw [hG]; simp
        have HF1 : Hid (∀ v ∈ F, v.oneCell' = true) := by rw [hF]; exact ints_oneCell .u64 f
        have HG1 : Hid (∀ v ∈ G, v.oneCell' = true) := by rw [hG]; exact ints_oneCell .u64 g
        rw [← hF] at HFX
        rw [← hG] at HGX
        have HFE : Hid (F = f.map (Value.int .u64)) := hF
        have HGE : Hid (G = g.map (Value.int .u64)) := hG
        clear hF hG
        go_wp2_with (refine copy_any rfl _ _ 225 225 rfl 151 Tryz.underlying225 Tryz.sizeU64 (some ⟨w.heap.size + 1 + 1, 0, none⟩) sp3 8 8 f.length cap3 rfl rfl (w.heap.size + 1 + 1) 0 (zero8.map (Value.int .u64)) 177 HX2.out F ?c1 ?c2 ?c3 HF1.out ?_)
        case c1 => rw [hFl]; exact (Nat.min_eq_left (by omega)).symm
        case c2 =>
          intro h
          obtain ⟨k, h1, h2, h3⟩ := HFX.out (by omega)
          refine ⟨_, h1, fun j v hj => ?_⟩
          rw [show (⟨k, 0, none⟩ : Addr).add j = ⟨k, j, none⟩ by unfold Addr.add; split <;> simp_all]
          exact h3 j v hj
        case c3 => rw [hFl]; show 0 + f.length ≤ 8; omega
        intro w6 HA1 HA2 HA3
        obtain ⟨d, hd⟩ : ∃ d : Nat, d + g.length = 8 := ⟨8 - g.length, by omega⟩
        have hdi : (8 : Int) - (g.length : Int) = (d : Int) := by omega
        have HD : Hid (d + g.length = 8) := hd
        have hd8 : d ≤ 8 := by omega
        clear hd
        by_cases hg0 : g.length = 0
        · have hd9 : d = 8 := by have := HD.out; omega
          subst hd9
          have hsl := Tryz.slice8_end (w.heap.size + 1 + 1) w6
          go_wp2_with (refine copy_any rfl _ _ 225 225 rfl 151 Tryz.underlying225 Tryz.sizeU64 (some ⟨w.heap.size + 1 + 1, 0, none⟩) sp5 0 0 g.length cap5 rfl rfl (w.heap.size + 1 + 1) 8 (splice (zero8.map (Value.int .u64)) 0 F) 177 HA1.out G ?d1 ?d2 ?d3 HG1.out ?_)
          case d1 => rw [hGl, hg0]; rfl
          case d2 => intro h; omega
          case d3 => rw [hGl, hg0, length_splice _ _ _ (by rw [hFl]; show 0 + f.length ≤ 8; omega)]; decide
          intro w7 HE1 HE2 HE3
          have HX7 : Hid (w7.heap[w.heap.size]? = some (.cells (cells8 zero8) 177 (0, 0))) := ((HE2.out _ (by omega)).trans (HA2.out _ (by omega))).trans HX0.out
          have HFILL : Hid ((splice (splice (zero8.map (Value.int .u64)) 0 F) 8 G).toArray = cells8 (f ++ (List.replicate (8 - f.length - g.length) 0 ++ g))) := by
            show _ = _
            rw [HFE.out, HGE.out]
            exact splice_fill f g 8 HD.out hcl
          have h8 : (cells8 (f ++ (List.replicate (8 - f.length - g.length) 0 ++ g))).size = 8 := by
            rw [cells8_size]
            simp
            omega
          have HE1' : Hid (w7.heap[w.heap.size + 1 + 1]? = some (.cells (cells8 (f ++ (List.replicate (8 - f.length - g.length) 0 ++ g))) 177 (0, 0))) := by
            have := HE1.out
            rw [HFILL.out] at this
            exact this
          have H8 : Hid ((Tryz.prog.info? 177).map (·.size) = some (cells8 (f ++ (List.replicate (8 - f.length - g.length) 0 ++ g))).size) := by
            show _ = _
            rw [h8]
            exact Tryz.size8
          have H88 : Hid ((cells8 zero8).size = (cells8 (f ++ (List.replicate (8 - f.length - g.length) 0 ++ g))).size) := h8.symm
          clear h8 HE1 HFILL
          obtain ⟨R, hR⟩ : ∃ R, R = f ++ (List.replicate (8 - f.length - g.length) 0 ++ g) := ⟨_, rfl⟩
          rw [← hR] at HE1' H8 H88
          have HRR : Hid (R = f ++ (List.replicate (8 - f.length - g.length) 0 ++ g)) := hR
          clear hR
          go_wp2_with (first | refine wpList_load_row rfl 177 _ rfl (w.heap.size + 1 + 1) rfl 177 (cells8 R) (0, 0) _ HE1'.out Tryz.underlying177 rfl H8.out ?_ | refine wpList_store_row rfl 177 _ _ rfl w.heap.size (cells8 R) rfl rfl 177 (cells8 zero8) HX7.out H8.out H88.out (cells8_one _) ?_)
          (try simp only [Exit.inBlock, Exit.then])
          have hld := run_loadVar_row (P := Tryz.prog) (w7.setRow w.heap.size (cells8 R)) w.heap.size 177 177 (cells8 R) (0, 0) _ (setRow_heap w7 w.heap.size (cells8 zero8) (cells8 R) 177 (0, 0) HX7.out) Tryz.underlying177 rfl H8.out
          have hB7 : Below w.heap.size w w7 := by
            have h1 := HB1.out.trans (HBB.out.mono (by rw [HSZ.out]; omega))
            obtain ⟨a1, a2, a3, a4⟩ := HA3.out
            obtain ⟨b1, b2, b3, b4⟩ := HE3.out
            exact h1.trans ⟨b1.trans a1, b2.trans a2, b3.trans a3, by omega, fun k hk => (HE2.out k (by omega)).trans (HA2.out k (by omega))⟩
          refine bodyPost_ret (v := .tuple #[.agg (cells8 R), .nilIface]) ?_ rfl ⟨?_, below_setRow hB7 (Nat.le_refl _) _⟩
          · rw [results_cell_tmp rfl]
            simp [asAddr, Result.andThen, hld]
          · show Tryz.SixRes (if _ then _ else _) _
            rw [if_pos (by exact HCO.out), HRR.out]
            rfl
        · have hd9 : d < 8 := by have := HD.out; omega
          have hsl := Tryz.slice8_low (w.heap.size + 1 + 1) d hd9 w6
          go_wp2_with (refine copy_any rfl _ _ 225 225 rfl 151 Tryz.underlying225 Tryz.sizeU64 (some ⟨w.heap.size + 1 + 1, d, none⟩) sp5 (8 - d) (8 - d) g.length cap5 rfl rfl (w.heap.size + 1 + 1) d (splice (zero8.map (Value.int .u64)) 0 F) 177 HA1.out G ?d1 ?d2 ?d3 HG1.out ?_)
          case d1 => rw [hGl]; have := HD.out; exact (Nat.min_eq_left (by omega)).symm
          case d2 =>
            intro h
            obtain ⟨k, h1, h2, h3⟩ := HGX.out (by omega)
            refine ⟨_, h1, fun j v hj => ?_⟩
            rw [show (⟨k, 0, none⟩ : Addr).add j = ⟨k, j, none⟩ by unfold Addr.add; split <;> simp_all]
            rw [World.cell?_of_block (w := w5) (HA2.out k (by omega))]
            exact h3 j v hj
          case d3 => rw [hGl, length_splice _ _ _ (by rw [hFl]; show 0 + f.length ≤ 8; omega)]; have := HD.out; show d + g.length ≤ 8; omega
          intro w7 HE1 HE2 HE3
          have HX7 : Hid (w7.heap[w.heap.size]? = some (.cells (cells8 zero8) 177 (0, 0))) := ((HE2.out _ (by omega)).trans (HA2.out _ (by omega))).trans HX0.out
          have HFILL : Hid ((splice (splice (zero8.map (Value.int .u64)) 0 F) d G).toArray = cells8 (f ++ (List.replicate (8 - f.length - g.length) 0 ++ g))) := by
            show _ = _
            rw [HFE.out, HGE.out]
            exact splice_fill f g d HD.out hcl
          have h8 : (cells8 (f ++ (List.replicate (8 - f.length - g.length) 0 ++ g))).size = 8 := by
            rw [cells8_size]
            simp
            omega
          have HE1' : Hid (w7.heap[w.heap.size + 1 + 1]? = some (.cells (cells8 (f ++ (List.replicate (8 - f.length - g.length) 0 ++ g))) 177 (0, 0))) := by
            have := HE1.out
            rw [HFILL.out] at this
            exact this
          have H8 : Hid ((Tryz.prog.info? 177).map (·.size) = some (cells8 (f ++ (List.replicate (8 - f.length - g.length) 0 ++ g))).size) := by
            show _ = _
            rw [h8]
            exact Tryz.size8
          have H88 : Hid ((cells8 zero8).size = (cells8 (f ++ (List.replicate (8 - f.length - g.length) 0 ++ g))).size) := h8.symm
          clear h8 HE1 HFILL
          obtain ⟨R, hR⟩ : ∃ R, R = f ++ (List.replicate (8 - f.length - g.length) 0 ++ g) := ⟨_, rfl⟩
          rw [← hR] at HE1' H8 H88
          have HRR : Hid (R = f ++ (List.replicate (8 - f.length - g.length) 0 ++ g)) := hR
          clear hR
          go_wp2_with (first | refine wpList_load_row rfl 177 _ rfl (w.heap.size + 1 + 1) rfl 177 (cells8 R) (0, 0) _ HE1'.out Tryz.underlying177 rfl H8.out ?_ | refine wpList_store_row rfl 177 _ _ rfl w.heap.size (cells8 R) rfl rfl 177 (cells8 zero8) HX7.out H8.out H88.out (cells8_one _) ?_)
          (try simp only [Exit.inBlock, Exit.then])
          have hld := run_loadVar_row (P := Tryz.prog) (w7.setRow w.heap.size (cells8 R)) w.heap.size 177 177 (cells8 R) (0, 0) _ (setRow_heap w7 w.heap.size (cells8 zero8) (cells8 R) 177 (0, 0) HX7.out) Tryz.underlying177 rfl H8.out
          have hB7 : Below w.heap.size w w7 := by
            have h1 := HB1.out.trans (HBB.out.mono (by rw [HSZ.out]; omega))
            obtain ⟨a1, a2, a3, a4⟩ := HA3.out
            obtain ⟨b1, b2, b3, b4⟩ := HE3.out
            exact h1.trans ⟨b1.trans a1, b2.trans a2, b3.trans a3, by omega, fun k hk => (HE2.out k (by omega)).trans (HA2.out k (by omega))⟩
          refine bodyPost_ret (v := .tuple #[.agg (cells8 R), .nilIface]) ?_ rfl ⟨?_, below_setRow hB7 (Nat.le_refl _) _⟩
          · rw [results_cell_tmp rfl]
            simp [asAddr, Result.andThen, hld]
          · show Tryz.SixRes (if _ then _ else _) _
            rw [if_pos (by exact HCO.out), HRR.out]
            rfl
      · have HCN : Hid (¬ ((f.length : Int) + (g.length : Int) == 8) = true) := hcount
        have HVE : Hid (Tryz.Env w5) := HV1.out.below HBB.out
        obtain ⟨te, ve, hce⟩ := HVE.out.eCount
        have hr0 : w5.cell? ⟨w.heap.size + 1, 0, none⟩ = some (.int .u64 0) := by rw [cell_of_row w5 _ _ _ _ _ HX1.out]; rfl
        have hq0 : w5.cell? ⟨w.heap.size, 0, none⟩ = some (.int .u64 0) := by rw [cell_of_row w5 _ _ _ _ _ HX0.out]; rfl
        have hz0 : w5.frozen? ⟨w.heap.size, 0, none⟩ = false := frozen_of_row w5 _ _ _ _ HX0.out
        have hr1 : w5.cell? ⟨w.heap.size + 1, 1, none⟩ = some (.int .u64 0) := by rw [cell_of_row w5 _ _ _ _ _ HX1.out]; rfl
        have hq1 : w5.cell? ⟨w.heap.size, 1, none⟩ = some (.int .u64 0) := by rw [cell_of_row w5 _ _ _ _ _ HX0.out]; rfl
        have hz1 : w5.frozen? ⟨w.heap.size, 1, none⟩ = false := frozen_of_row w5 _ _ _ _ HX0.out
        have hr2 : w5.cell? ⟨w.heap.size + 1, 2, none⟩ = some (.int .u64 0) := by rw [cell_of_row w5 _ _ _ _ _ HX1.out]; rfl
        have hq2 : w5.cell? ⟨w.heap.size, 2, none⟩ = some (.int .u64 0) := by rw [cell_of_row w5 _ _ _ _ _ HX0.out]; rfl
        have hz2 : w5.frozen? ⟨w.heap.size, 2, none⟩ = false := frozen_of_row w5 _ _ _ _ HX0.out
        have hr3 : w5.cell? ⟨w.heap.size + 1, 3, none⟩ = some (.int .u64 0) := by rw [cell_of_row w5 _ _ _ _ _ HX1.out]; rfl
        have hq3 : w5.cell? ⟨w.heap.size, 3, none⟩ = some (.int .u64 0) := by rw [cell_of_row w5 _ _ _ _ _ HX0.out]; rfl
        have hz3 : w5.frozen? ⟨w.heap.size, 3, none⟩ = false := frozen_of_row w5 _ _ _ _ HX0.out
        have hr4 : w5.cell? ⟨w.heap.size + 1, 4, none⟩ = some (.int .u64 0) := by rw [cell_of_row w5 _ _ _ _ _ HX1.out]; rfl
        have hq4 : w5.cell? ⟨w.heap.size, 4, none⟩ = some (.int .u64 0) := by rw [cell_of_row w5 _ _ _ _ _ HX0.out]; rfl
        have hz4 : w5.frozen? ⟨w.heap.size, 4, none⟩ = false := frozen_of_row w5 _ _ _ _ HX0.out
        have hr5 : w5.cell? ⟨w.heap.size + 1, 5, none⟩ = some (.int .u64 0) := by rw [cell_of_row w5 _ _ _ _ _ HX1.out]; rfl
        have hq5 : w5.cell? ⟨w.heap.size, 5, none⟩ = some (.int .u64 0) := by rw [cell_of_row w5 _ _ _ _ _ HX0.out]; rfl
        have hz5 : w5.frozen? ⟨w.heap.size, 5, none⟩ = false := frozen_of_row w5 _ _ _ _ HX0.out
        have hr6 : w5.cell? ⟨w.heap.size + 1, 6, none⟩ = some (.int .u64 0) := by rw [cell_of_row w5 _ _ _ _ _ HX1.out]; rfl
        have hq6 : w5.cell? ⟨w.heap.size, 6, none⟩ = some (.int .u64 0) := by rw [cell_of_row w5 _ _ _ _ _ HX0.out]; rfl
        have hz6 : w5.frozen? ⟨w.heap.size, 6, none⟩ = false := frozen_of_row w5 _ _ _ _ HX0.out
        have hr7 : w5.cell? ⟨w.heap.size + 1, 7, none⟩ = some (.int .u64 0) := by rw [cell_of_row w5 _ _ _ _ _ HX1.out]; rfl
        have hq7 : w5.cell? ⟨w.heap.size, 7, none⟩ = some (.int .u64 0) := by rw [cell_of_row w5 _ _ _ _ _ HX0.out]; rfl
        have hz7 : w5.frozen? ⟨w.heap.size, 7, none⟩ = false := frozen_of_row w5 _ _ _ _ HX0.out
        have HSET : Hid (∀ j, j < 8 → w5.setCell ⟨w.heap.size, j, none⟩ (.int .u64 0) = w5) := fun j hj => set8_same w5 w.heap.size j _ hj HX0.out
        have hne1 : ¬ (14 = w.heap.size) := by have := HV.out.size; omega
        have hne2 : ¬ (w.heap.size = 14) := by have := HV.out.size; omega
        go_wp2
        go_region
        all_goals
          simp only [HSET.out 0 (by omega), HSET.out 1 (by omega), HSET.out 2 (by omega), HSET.out 3 (by omega), HSET.out 4 (by omega), HSET.out 5 (by omega), HSET.out 6 (by omega), HSET.out 7 (by omega)]
          go_wp2
          (try simp only [Exit.inBlock, Exit.then])
          have hld := run_loadVar_row (P := Tryz.prog) w5.drew w.heap.size 177 177 (cells8 zero8) (0, 0) _ HX0.out Tryz.underlying177 rfl Tryz.size8
          refine bodyPost_ret (v := .tuple #[.agg (cells8 zero8), .iface te ve]) ?_ rfl ⟨?_, (HB1.out.trans (HBB.out.mono (by rw [HSZ.out]; omega))).drew⟩
          · rw [results_cell_tmp rfl]
            simp [asAddr, Result.andThen, hld]
          · show Tryz.SixRes (if _ then _ else _) _
            rw [if_neg (by exact HCN.out)]
            exact ⟨_, _, rfl⟩
theorem Tryz.readIP6_any (s : ByteArray) (w : World) (hs : s.size < 4294967281) (henv : Tryz.Env w) :
    Calls Tryz.prog 139 #[.string s] w fun e w' => Tryz.SixRes (sixOf s.data.toList) e ∧ Below w.heap.size w w' := by
  unfold sixOf
  match h : Lib.cut s.data.toList [58, 58] with
  | (a, b, true) =>
    have hl := cut_len s.data.toList [58, 58]
    rw [h] at hl
    simp only [Array.length_toList, ByteArray.size_data] at hl
    exact Tryz.readIP6_short s ⟨a.toArray⟩ ⟨b.toArray⟩ w hs (by show a.toArray.size < _; simp; omega) (by show b.toArray.size < _; simp; omega) henv h
  | (a, b, false) => exact Tryz.readIP6_long s a b w hs henv h
end Go.Proofs
