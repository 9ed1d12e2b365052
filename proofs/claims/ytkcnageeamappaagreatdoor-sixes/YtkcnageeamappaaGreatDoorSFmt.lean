/-
  What strconv.FormatUint answers by base 16 of a number below 65536.
-/
import Derived.Test.YtkcnageeamappaaGreatDoorFWalks
import Derived.Test.YtkcnageeamappaaGreatDoorSIp6
namespace Go.Proofs
open Go.RowKit Go.Moor

/-- The one cell of the table that the base 16 wants. -/
def Tryz.Tz (w : World) : Prop := w.cell? ⟨28, 15, none⟩ = some (.int .u8 4)

theorem Tryz.Tz.below {w w' : World} (h : Tryz.Tz w) (hb : Below w.heap.size w w') (hz : 28 < w.heap.size) : Tryz.Tz w' := by
  show _ = _
  rw [hb.cell (p := ⟨28, 15, none⟩) hz]
  exact h

set_option maxHeartbeats 1000000 in
set_option maxRecDepth 100000 in
theorem Tryz.tz64_16 (w : World) (h : Tryz.Tz w) :
    Calls Tryz.prog 314 #[.int .u64 16] w fun e w' => e = .returned (.int .i64 4) ∧ w' = w := by
  have hc : w.cell? ⟨28, 15, none⟩ = some (.int .u8 4) := h
  have h0 : IntKind.u64.wrap (-16) = 18446744073709551600 := by kernel_rfl
  have h1 : bits .and .u64 16 18446744073709551600 = 16 := by kernel_rfl
  have h2 : IntKind.u64.wrap 4573923408821661840 = 4573923408821661840 := by kernel_rfl
  clear h
  go_enter Tryz.func314, Tryz.ntmps314
  go_wp2
  go_ret
  exact ⟨rfl, rfl⟩

set_option maxHeartbeats 1000000 in
theorem Tryz.tz_16 (w : World) (h : Tryz.Tz w) :
    Calls Tryz.prog 292 #[.int .u64 16] w fun e w' => e = .returned (.int .i64 4) ∧ w' = w := by
  have H : Hid (Tryz.Tz w) := h
  clear h
  go_enter Tryz.func292, Tryz.ntmps292
  go_wp2_with (go_at_call 314; refine (Tryz.tz64_16 _ H.out).mono ?_; rintro e w' ⟨rfl, rfl⟩)
  go_ret
  exact ⟨rfl, rfl⟩

set_option maxHeartbeats 1000000 in
theorem Tryz.pow2_16 (w : World) :
    Calls Tryz.prog 291 #[.int .i64 16] w fun e w' => e = .returned (.bool true) ∧ w' = w := by
  have h1 : bits .and .i64 16 15 = 0 := by kernel_rfl
  go_enter Tryz.func291, Tryz.ntmps291
  go_wp2
  go_ret
  exact ⟨rfl, rfl⟩

theorem and_low4 (v : Nat) (h : v < 65536) : bits .and .u64 (v : Int) 15 = ((v % 16 : Nat) : Int) := by
  rw [show (15 : Int) = ((15 : Nat) : Int) from rfl, u64_and_nat v 15 (by omega) (by omega), show (15 : Nat) = 2 ^ 4 - 1 from rfl, Nat.and_two_pow_sub_one_eq_mod]

theorem dig36 (m : Nat) (h : m < (⟨#[48, 49, 50, 51, 52, 53, 54, 55, 56, 57, 97, 98, 99, 100, 101, 102, 103, 104, 105, 106, 107, 108, 109, 110, 111, 112, 113, 114, 115, 116, 117, 118, 119, 120, 121, 122]⟩ : ByteArray).size) (h16 : m < 16) : (⟨#[48, 49, 50, 51, 52, 53, 54, 55, 56, 57, 97, 98, 99, 100, 101, 102, 103, 104, 105, 106, 107, 108, 109, 110, 111, 112, 113, 114, 115, 116, 117, 118, 119, 120, 121, 122]⟩ : ByteArray)[m] = hexL m := by
  match m, h16 with
  | 0, _ => rfl
  | 1, _ => rfl
  | 2, _ => rfl
  | 3, _ => rfl
  | 4, _ => rfl
  | 5, _ => rfl
  | 6, _ => rfl
  | 7, _ => rfl
  | 8, _ => rfl
  | 9, _ => rfl
  | 10, _ => rfl
  | 11, _ => rfl
  | 12, _ => rfl
  | 13, _ => rfl
  | 14, _ => rfl
  | 15, _ => rfl
  | m + 16, h => exact absurd h (by omega)

theorem Tryz.len65 : Tryz.prog.arrayLen 285 = 65 := by kernel_rfl
theorem Tryz.elem65 : Tryz.prog.elem 285 = 5 := by kernel_rfl
theorem Tryz.array65 : Tryz.prog.underlying 285 = some (.array (Tryz.prog.arrayLen 285) (Tryz.prog.elem 285)) := by rw [Tryz.len65, Tryz.elem65]; exact Tryz.underlying285
theorem Tryz.sizeU8 : (Tryz.prog.info? 5).map (·.size) = some 1 := by kernel_rfl
theorem Tryz.sizeRun8 (w : World) : (sizeOf 5).run Tryz.prog w = .ok 1 w := by
  have h := Tryz.sizeU8
  cases hq : Tryz.prog.info? 5 with
  | none => rw [hq] at h; simp at h
  | some i =>
    rw [hq] at h
    have : i.size = 1 := by simpa using h
    simp [sizeOf, typeInfo, hq, this]
theorem Tryz.slice65_low (g d n : Nat) (hd : d < 65) (hn : d + n = 65) (w : World) : (Instr.sliceAt 285 (.pointer (some ⟨g, 0, none⟩)) (some (.int .i64 d)) none none).run Tryz.prog w = .ok (.slice (some ⟨g, d, none⟩) n n) w := by
  rw [run_sliceAt_array_l w 285 ⟨g, 0, none⟩ Tryz.array65 .i64 d (by omega) (by rw [Tryz.len65]; omega), Tryz.elem65, Tryz.sizeRun8, Tryz.len65]
  simp only [Result.andThen, slicedAt, Int.toNat_natCast, Nat.mul_one]
  rw [if_neg (by omega), show (⟨g, 0, none⟩ : Addr).add d = ⟨g, d, none⟩ by unfold Addr.add; split <;> simp_all, show 65 - d = n by omega]

set_option maxHeartbeats 4000000 in
set_option maxRecDepth 100000 in
theorem Tryz.fmtBits16 (u : Nat) (hu : u < 65536) (w : World) (henv : Tryz.Env w) (htz : Tryz.Tz w) :
    Calls Tryz.prog 257 #[.slice none 0 0, .int .u64 u, .int .i64 16, .bool false, .bool false] w fun e w' => e = .returned (.tuple #[.slice none 0 0, .string ⟨(digsF 16 3 u).toArray⟩]) ∧ Below w.heap.size w w' := by
  have HV : Hid (Tryz.Env w) := henv
  have HT : Hid (Tryz.Tz w) := htz
  have HT1 : Hid (Tryz.Tz (w.alloc (.cells Tryz.zeroCells285 285))) := HT.out.below ((Below.refl _ w).alloc (Nat.le_refl _) _) (by have := HV.out.size; omega)
  clear henv htz
  go_enter Tryz.func257, Tryz.ntmps257
  go_wp2_with fail
  refine (Tryz.pow2_16 _).mono ?_
  rintro e w1 ⟨rfl, hw1⟩
  have hw1 := hw1.symm
  subst hw1
  go_wp2_with fail
  refine (Tryz.tz_16 _ HT1.out).mono ?_
  rintro e w1 ⟨rfl, hw1⟩
  have hw1 := hw1.symm
  subst hw1
  go_wp2
  go_loopw [1, 13] (fun t i wr => ∃ (v k n : Nat) (ds : List UInt8), t = .int .u64 v ∧ i = .int .i64 n ∧ n + k = 65 ∧ k ≤ 3 ∧ ds.length = k ∧ v < 16 ^ (4 - k) ∧ digsF 16 (3 - k) v ++ ds = digsF 16 3 u ∧ (∀ j, j < 65 → (wr.cell? ⟨w.heap.size, j, none⟩).isSome = true) ∧ (∀ j, j < 65 → wr.frozen? ⟨w.heap.size, j, none⟩ = false) ∧ (∀ (j : Nat) x, ds[j]? = some x → wr.cell? ⟨w.heap.size, n + j, none⟩ = some (.int .u8 (x.toNat : Int))) ∧ Below w.heap.size w wr) (fun t _ _ => (intOf t).toNat)
  case atStart =>
    refine ⟨u, 0, 65, [], rfl, rfl, rfl, by omega, rfl, by simpa using hu, by simp, ?_, ?_, by simp, (Below.refl _ w).alloc (Nat.le_refl _) _⟩
    · intro j hj
      rw [World.cell?_alloc_new]
      simp
      exact hj
    · intro j hj
      exact World.frozen?_alloc_new _ _ _ _
  case round =>
    obtain ⟨v, k, n, ds, rfl, rfl, hnk, hk3, hdl, hv, hdig, hcs, hfs, hcl, hbw⟩ := hrel
    have HDIG : Hid (digsF 16 (3 - k) v ++ ds = digsF 16 3 u) := hdig
    have HCS : Hid (∀ j, j < 65 → (wr.cell? ⟨w.heap.size, j, none⟩).isSome = true) := hcs
    have HFS : Hid (∀ j, j < 65 → wr.frozen? ⟨w.heap.size, j, none⟩ = false) := hfs
    have HCL : Hid (∀ (j : Nat) x, ds[j]? = some x → wr.cell? ⟨w.heap.size, n + j, none⟩ = some (.int .u8 (x.toNat : Int))) := hcl
    have HV4 : Hid (v < 16 ^ (4 - k)) := hv
    have hv5 : v < 65536 := Nat.lt_of_lt_of_le hv (by
      have : k = 0 ∨ k = 1 ∨ k = 2 ∨ k = 3 := by omega
      rcases this with rfl | rfl | rfl | rfl <;> decide)
    obtain ⟨p, rfl⟩ : ∃ p, n = p + 1 := ⟨n - 1, by omega⟩
    obtain ⟨c, hc⟩ := Option.isSome_iff_exists.1 (hcs p (by omega))
    have hf := hfs p (by omega)
    have hp65 : p < 65 := by omega
    clear hdig hcs hfs hcl hv
    by_cases h16 : 16 ≤ v
    · have HA : Hid (bits .and .u64 (v : Int) 15 = ((v % 16 : Nat) : Int)) := and_low4 v hv5
      have hA := HA.out
      go_wp2
      go_roundw
      case rel =>
        have hk2 : k ≤ 2 := by
          rcases (show k ≤ 2 ∨ k = 3 by omega) with h | h
          · exact h
          · exfalso
            have h3 := HV4.out
            rw [h] at h3
            have h4 : v < 16 := h3
            omega
        refine ⟨v / 16, k + 1, p, hexL (v % 16) :: ds, by simp, rfl, by omega, by omega, by simp [hdl], ?_, ?_, ?_, ?_, ?_, hbw.setCell (Nat.le_refl _) _⟩
        · have h1 := HV4.out
          rw [show 4 - k = (4 - (k + 1)) + 1 by omega, Nat.pow_succ] at h1
          rw [Nat.mul_comm] at h1
          exact Nat.div_lt_of_lt_mul h1
        · have h1 := HDIG.out
          rw [show 3 - k = (3 - (k + 1)) + 1 by omega, digsF, if_neg (by omega), List.append_assoc] at h1
          exact h1
        · intro j hj
          by_cases hjp : j = p
          · subst hjp
            rw [World.cell?_setCell_same _ _ _ hc]; rfl
          · rw [World.cell?_setCell_other _ _ _ _ (by intro h; cases h; exact hjp rfl)]
            exact HCS.out j hj
        · intro j hj
          rw [World.frozen?_setCell]
          exact HFS.out j hj
        · intro j x hx
          match j, hx with
          | 0, hx =>
            simp at hx
            subst hx
            exact (World.cell?_setCell_same _ _ _ hc).trans (by rw [dig36 _ _ (by omega)])
          | j + 1, hx =>
            rw [World.cell?_setCell_other _ _ _ _ (by intro h; cases h), show p + (j + 1) = p + 1 + j by omega]
            exact HCL.out j x (by simpa using hx)
      case measure => simp [intOf]; omega
    · have hs36 : v < (⟨#[48, 49, 50, 51, 52, 53, 54, 55, 56, 57, 97, 98, 99, 100, 101, 102, 103, 104, 105, 106, 107, 108, 109, 110, 111, 112, 113, 114, 115, 116, 117, 118, 119, 120, 121, 122]⟩ : ByteArray).size := by show v < 36; omega
      have hsl := Tryz.slice65_low w.heap.size p (k + 1) (by omega) (by omega) (wr.setCell ⟨w.heap.size, p, none⟩ (.int .u8 ((⟨#[48, 49, 50, 51, 52, 53, 54, 55, 56, 57, 97, 98, 99, 100, 101, 102, 103, 104, 105, 106, 107, 108, 109, 110, 111, 112, 113, 114, 115, 116, 117, 118, 119, 120, 121, 122]⟩ : ByteArray)[v].toNat : Int)))
      have hcv : (convert 47 9 (.slice (some ⟨w.heap.size, p, none⟩) (k + 1) (k + 1))).run Tryz.prog (wr.setCell ⟨w.heap.size, p, none⟩ (.int .u8 ((⟨#[48, 49, 50, 51, 52, 53, 54, 55, 56, 57, 97, 98, 99, 100, 101, 102, 103, 104, 105, 106, 107, 108, 109, 110, 111, 112, 113, 114, 115, 116, 117, 118, 119, 120, 121, 122]⟩ : ByteArray)[v].toNat : Int))) = .ok (.string ⟨(hexL v :: ds).toArray⟩) (wr.setCell ⟨w.heap.size, p, none⟩ (.int .u8 ((⟨#[48, 49, 50, 51, 52, 53, 54, 55, 56, 57, 97, 98, 99, 100, 101, 102, 103, 104, 105, 106, 107, 108, 109, 110, 111, 112, 113, 114, 115, 116, 117, 118, 119, 120, 121, 122]⟩ : ByteArray)[v].toNat : Int))) := by
        have h := run_convert_bytes_back (P := Tryz.prog) (wr.setCell ⟨w.heap.size, p, none⟩ (.int .u8 ((⟨#[48, 49, 50, 51, 52, 53, 54, 55, 56, 57, 97, 98, 99, 100, 101, 102, 103, 104, 105, 106, 107, 108, 109, 110, 111, 112, 113, 114, 115, 116, 117, 118, 119, 120, 121, 122]⟩ : ByteArray)[v].toNat : Int))) 47 9 5 ⟨w.heap.size, p, none⟩ (k + 1) (hexL v :: ds) Tryz.underlying47 Tryz.underlying5 Tryz.underlying9 (fun j hj => by
          rw [show (⟨w.heap.size, p, none⟩ : Addr).add j = ⟨w.heap.size, p + j, none⟩ by unfold Addr.add; split <;> simp_all]
          match j, hj with
          | 0, _ => exact (World.cell?_setCell_same _ _ _ hc).trans (by rw [dig36 _ _ (by omega)]; rfl)
          | j + 1, hj =>
            rw [World.cell?_setCell_other _ _ _ _ (by intro h; cases h), show p + (j + 1) = p + 1 + j by omega]
            exact HCL.out j _ (by simp))
        rw [List.length_cons, hdl] at h
        exact h
      have HFIN : Hid (hexL v :: ds = digsF 16 3 u) := by
        show _ = _
        rw [← HDIG.out]
        have : digsF 16 (3 - k) v = [hexL v] := by
          cases h3 : 3 - k with
          | zero => rfl
          | succ m => unfold digsF; rw [if_pos (by omega)]
        rw [this]
        rfl
      go_wp2
      go_ret2
      refine ⟨?_, hbw.setCell (Nat.le_refl _) _⟩
      rw [HFIN.out]
      rfl

set_option maxHeartbeats 1000000 in
theorem Tryz.fmt16_inner (u : Nat) (hu : u < 65536) (w : World) (henv : Tryz.Env w) (htz : Tryz.Tz w) :
    Calls Tryz.prog 239 #[.int .u64 u, .int .i64 16] w fun e w' => e = .returned (.string ⟨(digsF 16 3 u).toArray⟩) ∧ Below w.heap.size w w' := by
  have HV : Hid (Tryz.Env w) := henv
  have HT : Hid (Tryz.Tz w) := htz
  clear henv htz
  go_enter Tryz.func239, Tryz.ntmps239
  go_wp2_with fail
  refine (Tryz.fmtBits16 u hu _ HV.out HT.out).mono ?_
  rintro e w' ⟨rfl, hb⟩
  go_wp2
  go_ret
  exact ⟨rfl, hb⟩

set_option maxHeartbeats 1000000 in
theorem Tryz.fmt16_any (u : Nat) (hu : u < 65536) (w : World) (henv : Tryz.Env w) (htz : Tryz.Tz w) :
    Calls Tryz.prog 203 #[.int .u64 u, .int .i64 16] w fun e w' => e = .returned (.string ⟨(digsF 16 3 u).toArray⟩) ∧ Below w.heap.size w w' := by
  have HV : Hid (Tryz.Env w) := henv
  have HT : Hid (Tryz.Tz w) := htz
  clear henv htz
  go_enter Tryz.func203, Tryz.ntmps203
  go_wp2_with fail
  refine (Tryz.fmt16_inner u hu _ HV.out HT.out).mono ?_
  rintro e w' ⟨rfl, hb⟩
  go_wp2
  go_ret
  exact ⟨rfl, hb⟩
end Go.Proofs
