/-
  What the functions of package address that cut at marks answer.
-/
import Derived.Test.YtkcnageeamappabGreatDoorJAScheme2
import Derived.Test.YtkcnageeamappabGreatDoorJSIp6
import Derived.Laws.ResultCell
import Derived.Laws.Rows
import Derived.Test.YtkcnageeamappabGreatDoorJDrew
import Derived.Test.YtkcnageeamappabGreatDoorJFPlain
namespace Go.Proofs
open Go.RowKit Go.Moor

theorem alloc_here (w : World) (cs : Array Value) (t : TypeId) : (w.alloc (.cells cs t)).heap[w.heap.size]? = some (.cells cs t (0, 0)) := by
  unfold World.alloc
  exact Array.getElem?_push_size

def optCells (o : Option Bs) : Array Value := #[.bool o.isSome, .string ⟨(o.getD []).toArray⟩]
def cutsCells (c : Cuts) : Array Value := #[.string ⟨c.scheme.toArray⟩, .string ⟨c.middle.toArray⟩, .bool c.query.isSome, .string ⟨(c.query.getD []).toArray⟩, .bool c.frag.isSome, .string ⟨(c.frag.getD []).toArray⟩]
def noCuts : Array Value := #[.string ⟨#[]⟩, .string ⟨#[]⟩, .bool false, .string ⟨#[]⟩, .bool false, .string ⟨#[]⟩]
theorem cutsCells_one (c : Cuts) : (cutsCells c).all (·.oneCell') = true := by
  simp [cutsCells, Value.oneCell']
theorem Tryz.sizeMarks : (Tryz.prog.info? 85).map (·.size) = some 6 := by kernel_rfl
theorem Tryz.sizeOptional : (Tryz.prog.info? 50).map (·.size) = some 2 := by kernel_rfl

set_option maxHeartbeats 2000000 in
theorem Tryz.cutAtMarks_any (s : ByteArray) (w : World) (hs : s.size < 4294967281) (henv : Tryz.Env w) :
    Calls Tryz.prog 40 #[.string s] w fun e w' => e = .returned (.agg (cutsCells (cutMarks s.data.toList))) ∧ Below w.heap.size w w' := by
  have HV : Hid (Tryz.Env w) := henv
  clear henv
  have HW : Hid (Below w.heap.size w (w.alloc (.cells noCuts 85))) := (Below.refl _ _).alloc (Nat.le_refl _) _
  have HVA : Hid (Tryz.Env (w.alloc (.cells noCuts 85))) := HV.out.below HW.out
  have HA : Hid ((w.alloc (.cells noCuts 85)).heap[w.heap.size]? = some (.cells noCuts 85 (0, 0))) := alloc_here w _ _
  have HSC : Hid (Calls Tryz.prog 73 #[.string s] (w.alloc (.cells noCuts 85)) fun e w' => e = .returned (.tuple #[.string ⟨(cutScheme s.data.toList).1.toArray⟩, .string ⟨(cutScheme s.data.toList).2.toArray⟩]) ∧ Below (w.alloc (.cells noCuts 85)).heap.size (w.alloc (.cells noCuts 85)) w') := Tryz.cutScheme_any s _ hs HVA.out
  have hlen : (cutScheme s.data.toList).2.length ≤ s.size := by
    unfold cutScheme
    rw [Lib.size_eq]
    cases h : cutB 58 s.data.toList with
    | none => exact Nat.le_refl _
    | some p =>
      have := cutB_parts 58 _ p.1 p.2 h
      have hl : s.data.toList.length = p.1.length + (p.2.length + 1) := by rw [this]; simp
      show (if isSchemeB p.1 = true then (Lib.toLowerA p.1, p.2) else ([], s.data.toList)).2.length ≤ _
      split
      · show p.2.length ≤ _
        omega
      · exact Nat.le_refl _
  have HCM : Hid (cutsCells (cutMarks s.data.toList) = cutsCells ⟨(cutScheme s.data.toList).1, (cutOpt 63 (cutOpt 35 (cutScheme s.data.toList).2).1).1, (cutOpt 63 (cutOpt 35 (cutScheme s.data.toList).2).1).2, (cutOpt 35 (cutScheme s.data.toList).2).2⟩) := rfl
  generalize (cutScheme s.data.toList).1 = sc at *
  generalize (cutScheme s.data.toList).2 = rest at *
  have hl1 := cutOpt_len 35 rest
  have hl2 := cutOpt_len 63 (cutOpt 35 rest).1
  have HC1 : Hid (∀ m W, W.cell? ⟨15, 0, none⟩ = some (.int .i64 m) → Calls Tryz.prog 69 #[.string ⟨rest.toArray⟩, .string ⟨#[35]⟩] W fun e w' => e = .returned (.tuple #[.string ⟨(cutOpt 35 rest).1.toArray⟩, .string ⟨((cutOpt 35 rest).2.getD []).toArray⟩, .bool (cutOpt 35 rest).2.isSome]) ∧ ∃ n, w' = W.drewN n) := fun m W hm => Tryz.cut_byte ⟨rest.toArray⟩ 35 m W (by rw [size_mk]; omega) hm
  have HC2 : Hid (∀ m W, W.cell? ⟨15, 0, none⟩ = some (.int .i64 m) → Calls Tryz.prog 69 #[.string ⟨(cutOpt 35 rest).1.toArray⟩, .string ⟨#[63]⟩] W fun e w' => e = .returned (.tuple #[.string ⟨(cutOpt 63 (cutOpt 35 rest).1).1.toArray⟩, .string ⟨((cutOpt 63 (cutOpt 35 rest).1).2.getD []).toArray⟩, .bool (cutOpt 63 (cutOpt 35 rest).1).2.isSome]) ∧ ∃ n, w' = W.drewN n) := fun m W hm => Tryz.cut_byte ⟨(cutOpt 35 rest).1.toArray⟩ 63 m W (by rw [size_mk]; omega) hm
  clear hl1 hl2 hlen hs
  go_enter Tryz.func40, Tryz.ntmps40
  go_wp2_with fail
  refine HSC.out.mono ?_
  rintro e w1 ⟨rfl, b1⟩
  have HN : Hid (w1.heap[w.heap.size]? = some (.cells noCuts 85 (0, 0))) := (b1.block _ (by simp)).trans HA.out
  have HB1 : Hid (Below w.heap.size w w1) := HW.out.trans (b1.mono (by simp))
  obtain ⟨m, hm⟩ := (HVA.out.below b1).maxLen
  have HM : Hid (w1.cell? ⟨15, 0, none⟩ = some (.int .i64 m)) := hm
  clear b1 hm HVA
  go_wp2_with fail
  refine (HC1.out m w1 HM.out).mono ?_
  rintro e w2 ⟨rfl, n1, rfl⟩
  go_wp2_with fail
  refine (HC2.out m (w1.drewN n1) HM.out).mono ?_
  rintro e w2 ⟨rfl, n2, rfl⟩
  have HN2 : Hid (((w1.drewN n1).drewN n2).heap[w.heap.size]? = some (.cells noCuts 85 (0, 0))) := HN.out
  have HB2 : Hid (Below w.heap.size w ((w1.drewN n1).drewN n2)) := drew_on (drew_on HB1.out n1) n2
  have HSZ : Hid ((cutsCells ⟨sc, (cutOpt 63 (cutOpt 35 rest).1).1, (cutOpt 63 (cutOpt 35 rest).1).2, (cutOpt 35 rest).2⟩).all (·.oneCell') = true) := cutsCells_one _
  generalize (w1.drewN n1).drewN n2 = w3 at *
  go_wp2_with (refine wpList_store_row rfl 85 _ _ rfl w.heap.size (cutsCells ⟨sc, (cutOpt 63 (cutOpt 35 rest).1).1, (cutOpt 63 (cutOpt 35 rest).1).2, (cutOpt 35 rest).2⟩) rfl rfl 85 noCuts HN2.out Tryz.sizeMarks rfl HSZ.out ?_)
  (try simp only [Exit.inBlock, Exit.then])
  refine bodyPost_ret (v := .agg (cutsCells ⟨sc, (cutOpt 63 (cutOpt 35 rest).1).1, (cutOpt 63 (cutOpt 35 rest).1).2, (cutOpt 35 rest).2⟩)) ?_ rfl ⟨by rw [HCM.out], below_setRow HB2.out (Nat.le_refl _) _⟩
  exact results_cell_row rfl _ _ w.heap.size 85 _ (0, 0) _ rfl (setRow_heap w3 w.heap.size noCuts _ 85 (0, 0) HN2.out) Tryz.underlying85 rfl Tryz.sizeMarks
end Go.Proofs
/-
  What the small makers of texts answer (pick, digits, number, dotted), as contracts.
-/
namespace Go.Proofs
open Go.RowKit Go.Moor

set_option maxHeartbeats 400000 in
theorem Tryz.pickn_any (c N : Int) (w : World) (h0 : -(2 ^ 63) ≤ c) (h1 : c < 2 ^ 63) (hN0 : 0 < N) (hN1 : N ≤ 4294967296) :
    Calls Tryz.prog 4 #[.int .i64 c, .int .i64 N] w fun e w' => (∃ p : Nat, (p : Int) < N ∧ e = .returned (.int .i64 p)) ∧ w' = w := by
  by_cases h : c < 0
  · go_enter Tryz.func4, Tryz.ntmps4
    go_wp2
    go_ret
    have e : -(c + 1).tmod N = (-(c + 1)) % N := by
      rw [← Int.tmod_eq_emod_of_nonneg (by omega), Int.neg_tmod]
    have hp0 : 0 ≤ (-(c + 1)) % N := Int.emod_nonneg _ (by omega)
    have hp1 : (-(c + 1)) % N < N := Int.emod_lt_of_pos _ hN0
    refine ⟨⟨((-(c + 1)) % N).toNat, by omega, ?_⟩, rfl⟩
    show Ending.returned (.int .i64 (-(c + 1).tmod N)) = .returned (.int .i64 (((-(c + 1)) % N).toNat : Int))
    rw [e, Int.toNat_of_nonneg hp0]
  · go_enter Tryz.func4, Tryz.ntmps4
    go_wp2
    go_ret
    have hp0 : 0 ≤ c % N := Int.emod_nonneg _ (by omega)
    have hp1 : c % N < N := Int.emod_lt_of_pos _ hN0
    refine ⟨⟨(c % N).toNat, by omega, ?_⟩, rfl⟩
    show Ending.returned (.int .i64 (c % N)) = .returned (.int .i64 ((c % N).toNat : Int))
    rw [Int.toNat_of_nonneg hp0]

theorem app_mk (l m : List UInt8) : (⟨l.toArray⟩ : ByteArray) ++ ⟨m.toArray⟩ = ⟨(l ++ m).toArray⟩ := by
  apply Tryz.bytes_ext
  simp

def lowHex : ByteArray := ⟨#[48, 49, 50, 51, 52, 53, 54, 55, 56, 57, 97, 98, 99, 100, 101, 102]⟩
theorem low_fin : ∀ n : Fin 16, (lowHex.extract n.val (n.val + 1)).data.toList = [hexL n.val] := by decide +kernel
theorem low_at (n : Nat) (h : n < 16) : lowHex.extract n (n + 1) = ⟨[hexL n].toArray⟩ := by
  apply Tryz.bytes_ext
  exact low_fin ⟨n, h⟩

theorem wrap_i64 (x : Int) (h0 : 0 ≤ x) (h1 : x < 4294967297) : IntKind.i64.wrap x = x := by
  simp only [IntKind.wrap, IntKind.bits, IntKind.signed]
  simp
  omega

end Go.Proofs
/-
  What strconv.FormatUint answers by base 16 of a number below 65536.
-/
namespace Go.Proofs
open Go.RowKit Go.Moor

/-- The one cell of the table that the base 16 wants. -/
def Tryz.Tz (w : World) : Prop := w.cell? ⟨23, 15, none⟩ = some (.int .u8 4)

theorem Tryz.Tz.below {w w' : World} (h : Tryz.Tz w) (hb : Below w.heap.size w w') (hz : 23 < w.heap.size) : Tryz.Tz w' := by
  show _ = _
  rw [hb.cell (p := ⟨23, 15, none⟩) hz]
  exact h

set_option maxHeartbeats 1000000 in
set_option maxRecDepth 100000 in
theorem Tryz.tz64_16 (w : World) (h : Tryz.Tz w) :
    Calls Tryz.prog 218 #[.int .u64 16] w fun e w' => e = .returned (.int .i64 4) ∧ w' = w := by
  have hc : w.cell? ⟨23, 15, none⟩ = some (.int .u8 4) := h
  have h0 : IntKind.u64.wrap (-16) = 18446744073709551600 := by kernel_rfl
  have h1 : bits .and .u64 16 18446744073709551600 = 16 := by kernel_rfl
  have h2 : IntKind.u64.wrap 4573923408821661840 = 4573923408821661840 := by kernel_rfl
  clear h
  go_enter Tryz.func218, Tryz.ntmps218
  go_wp2
  go_ret
  exact ⟨rfl, rfl⟩

set_option maxHeartbeats 1000000 in
theorem Tryz.tz_16 (w : World) (h : Tryz.Tz w) :
    Calls Tryz.prog 198 #[.int .u64 16] w fun e w' => e = .returned (.int .i64 4) ∧ w' = w := by
  have H : Hid (Tryz.Tz w) := h
  clear h
  go_enter Tryz.func198, Tryz.ntmps198
  go_wp2_with (go_at_call 218; refine (Tryz.tz64_16 _ H.out).mono ?_; rintro e w' ⟨rfl, rfl⟩)
  go_ret
  exact ⟨rfl, rfl⟩

set_option maxHeartbeats 1000000 in
theorem Tryz.pow2_16 (w : World) :
    Calls Tryz.prog 197 #[.int .i64 16] w fun e w' => e = .returned (.bool true) ∧ w' = w := by
  have h1 : bits .and .i64 16 15 = 0 := by kernel_rfl
  go_enter Tryz.func197, Tryz.ntmps197
  go_wp2
  go_ret
  exact ⟨rfl, rfl⟩

theorem and_low4 (v : Nat) (h : v < 65536) : bits .and .u64 (v : Int) 15 = ((v % 16 : Nat) : Int) := by
  rw [show (15 : Int) = ((15 : Nat) : Int) from rfl, u64_and_nat v 15 (by omega) (by omega), show (15 : Nat) = 2 ^ 4 - 1 from rfl, Nat.and_two_pow_sub_one_eq_mod]

theorem dig36 (m : Nat) (h : m < (⟨#[48, 49, 50, 51, 52, 53, 54, 55, 56, 57, 97, 98, 99, 100, 101, 102, 103, 104, 105, 106, 107, 108, 109, 110, 111, 112, 113, 114, 115, 116, 117, 118, 119, 120, 121, 122]⟩ : ByteArray).size) (h16 : m < 16) : (⟨#[48, 49, 50, 51, 52, 53, 54, 55, 56, 57, 97, 98, 99, 100, 101, 102, 103, 104, 105, 106, 107, 108, 109, 110, 111, 112, 113, 114, 115, 116, 117, 118, 119, 120, 121, 122]⟩ : ByteArray)[m] = hexL m := by
  match m, h16 with
  | 0, _ => rfl
  | 1, _ => rfl
  | 2, _ => rfl
  | 3, _ => rfl
  | 4, _ => rfl
  | 5, _ => rfl
  | 6, _ => rfl
  | 7, _ => rfl
  | 8, _ => rfl
  | 9, _ => rfl
  | 10, _ => rfl
  | 11, _ => rfl
  | 12, _ => rfl
  | 13, _ => rfl
  | 14, _ => rfl
  | 15, _ => rfl
  | m + 16, h => exact absurd h (by omega)

theorem Tryz.len65 : Tryz.prog.arrayLen 229 = 65 := by kernel_rfl
theorem Tryz.elem65 : Tryz.prog.elem 229 = 5 := by kernel_rfl
theorem Tryz.array65 : Tryz.prog.underlying 229 = some (.array (Tryz.prog.arrayLen 229) (Tryz.prog.elem 229)) := by rw [Tryz.len65, Tryz.elem65]; exact Tryz.underlying229
theorem Tryz.sizeU8 : (Tryz.prog.info? 5).map (·.size) = some 1 := by kernel_rfl
theorem Tryz.sizeRun8 (w : World) : (sizeOf 5).run Tryz.prog w = .ok 1 w := by
  have h := Tryz.sizeU8
  cases hq : Tryz.prog.info? 5 with
  | none => rw [hq] at h; simp at h
  | some i =>
    rw [hq] at h
    have : i.size = 1 := by simpa using h
    simp [sizeOf, typeInfo, hq, this]
theorem Tryz.slice65_low (g d n : Nat) (hd : d < 65) (hn : d + n = 65) (w : World) : (Instr.sliceAt 229 (.pointer (some ⟨g, 0, none⟩)) (some (.int .i64 d)) none none).run Tryz.prog w = .ok (.slice (some ⟨g, d, none⟩) n n) w := by
  rw [run_sliceAt_array_l w 229 ⟨g, 0, none⟩ Tryz.array65 .i64 d (by omega) (by rw [Tryz.len65]; omega), Tryz.elem65, Tryz.sizeRun8, Tryz.len65]
  simp only [Result.andThen, slicedAt, Int.toNat_natCast, Nat.mul_one]
  rw [if_neg (by omega), show (⟨g, 0, none⟩ : Addr).add d = ⟨g, d, none⟩ by unfold Addr.add; split <;> simp_all, show 65 - d = n by omega]

set_option maxHeartbeats 4000000 in
set_option maxRecDepth 100000 in
theorem Tryz.fmtBits16 (u : Nat) (hu : u < 65536) (w : World) (henv : Tryz.Env w) (htz : Tryz.Tz w) :
    Calls Tryz.prog 158 #[.slice none 0 0, .int .u64 u, .int .i64 16, .bool false, .bool false] w fun e w' => e = .returned (.tuple #[.slice none 0 0, .string ⟨(digsF 16 3 u).toArray⟩]) ∧ Below w.heap.size w w' := by
  have HV : Hid (Tryz.Env w) := henv
  have HT : Hid (Tryz.Tz w) := htz
  have HT1 : Hid (Tryz.Tz (w.alloc (.cells Tryz.zeroCells229 229))) := HT.out.below ((Below.refl _ w).alloc (Nat.le_refl _) _) (by have := HV.out.size; omega)
  clear henv htz
  go_enter Tryz.func158, Tryz.ntmps158
  go_wp2_with fail
  refine (Tryz.pow2_16 _).mono ?_
  rintro e w1 ⟨rfl, hw1⟩
  have hw1 := hw1.symm
  subst hw1
  go_wp2_with fail
  refine (Tryz.tz_16 _ HT1.out).mono ?_
  rintro e w1 ⟨rfl, hw1⟩
  have hw1 := hw1.symm
  subst hw1
  go_wp2
  go_loopw [1, 13] (fun t i wr => ∃ (v k n : Nat) (ds : List UInt8), t = .int .u64 v ∧ i = .int .i64 n ∧ n + k = 65 ∧ k ≤ 3 ∧ ds.length = k ∧ v < 16 ^ (4 - k) ∧ digsF 16 (3 - k) v ++ ds = digsF 16 3 u ∧ (∀ j, j < 65 → (wr.cell? ⟨w.heap.size, j, none⟩).isSome = true) ∧ (∀ j, j < 65 → wr.frozen? ⟨w.heap.size, j, none⟩ = false) ∧ (∀ (j : Nat) x, ds[j]? = some x → wr.cell? ⟨w.heap.size, n + j, none⟩ = some (.int .u8 (x.toNat : Int))) ∧ Below w.heap.size w wr) (fun t _ _ => (intOf t).toNat)
  case atStart =>
    refine ⟨u, 0, 65, [], rfl, rfl, rfl, by omega, rfl, by simpa using hu, by simp, ?_, ?_, by simp, (Below.refl _ w).alloc (Nat.le_refl _) _⟩
    · intro j hj
      rw [World.cell?_alloc_new]
      simp
      exact hj
    · intro j hj
      exact World.frozen?_alloc_new _ _ _ _
  case round =>
    obtain ⟨v, k, n, ds, rfl, rfl, hnk, hk3, hdl, hv, hdig, hcs, hfs, hcl, hbw⟩ := hrel
    have HDIG : Hid (digsF 16 (3 - k) v ++ ds = digsF 16 3 u) := hdig
    have HCS : Hid (∀ j, j < 65 → (wr.cell? ⟨w.heap.size, j, none⟩).isSome = true) := hcs
    have HFS : Hid (∀ j, j < 65 → wr.frozen? ⟨w.heap.size, j, none⟩ = false) := hfs
    have HCL : Hid (∀ (j : Nat) x, ds[j]? = some x → wr.cell? ⟨w.heap.size, n + j, none⟩ = some (.int .u8 (x.toNat : Int))) := hcl
    have HV4 : Hid (v < 16 ^ (4 - k)) := hv
    have hv5 : v < 65536 := Nat.lt_of_lt_of_le hv (by
      have : k = 0 ∨ k = 1 ∨ k = 2 ∨ k = 3 := by omega
      rcases this with rfl | rfl | rfl | rfl <;> decide)
    obtain ⟨p, rfl⟩ : ∃ p, n = p + 1 := ⟨n - 1, by omega⟩
    obtain ⟨c, hc⟩ := Option.isSome_iff_exists.1 (hcs p (by omega))
    have hf := hfs p (by omega)
    have hp65 : p < 65 := by omega
    clear hdig hcs hfs hcl hv
    by_cases h16 : 16 ≤ v
    · have HA : Hid (bits .and .u64 (v : Int) 15 = ((v % 16 : Nat) : Int)) := and_low4 v hv5
      have hA := HA.out
      go_wp2
      go_roundw
      case rel =>
        have hk2 : k ≤ 2 := by
          rcases (show k ≤ 2 ∨ k = 3 by omega) with h | h
          · exact h
          · exfalso
            have h3 := HV4.out
            rw [h] at h3
            have h4 : v < 16 := h3
            omega
        refine ⟨v / 16, k + 1, p, hexL (v % 16) :: ds, by simp, rfl, by omega, by omega, by simp [hdl], ?_, ?_, ?_, ?_, ?_, hbw.setCell (Nat.le_refl _) _⟩
        · have h1 := HV4.out
          rw [show 4 - k = (4 - (k + 1)) + 1 by omega, Nat.pow_succ] at h1
          rw [Nat.mul_comm] at h1
          exact Nat.div_lt_of_lt_mul h1
        · have h1 := HDIG.out
          rw [show 3 - k = (3 - (k + 1)) + 1 by omega, digsF, if_neg (by omega), List.append_assoc] at h1
          exact h1
        · intro j hj
          by_cases hjp : j = p
          · subst hjp
            rw [World.cell?_setCell_same _ _ _ hc]; rfl
          · rw [World.cell?_setCell_other _ _ _ _ (by intro h; cases h; exact hjp rfl)]
            exact HCS.out j hj
        · intro j hj
          rw [World.frozen?_setCell]
          exact HFS.out j hj
        · intro j x hx
          match j, hx with
          | 0, hx =>
            simp at hx
            subst hx
            exact (World.cell?_setCell_same _ _ _ hc).trans (by rw [dig36 _ _ (by omega)])
          | j + 1, hx =>
            rw [World.cell?_setCell_other _ _ _ _ (by intro h; cases h), show p + (j + 1) = p + 1 + j by omega]
            exact HCL.out j x (by simpa using hx)
      case measure => simp [intOf]; omega
    · have hs36 : v < (⟨#[48, 49, 50, 51, 52, 53, 54, 55, 56, 57, 97, 98, 99, 100, 101, 102, 103, 104, 105, 106, 107, 108, 109, 110, 111, 112, 113, 114, 115, 116, 117, 118, 119, 120, 121, 122]⟩ : ByteArray).size := by show v < 36; omega
      have hsl := Tryz.slice65_low w.heap.size p (k + 1) (by omega) (by omega) (wr.setCell ⟨w.heap.size, p, none⟩ (.int .u8 ((⟨#[48, 49, 50, 51, 52, 53, 54, 55, 56, 57, 97, 98, 99, 100, 101, 102, 103, 104, 105, 106, 107, 108, 109, 110, 111, 112, 113, 114, 115, 116, 117, 118, 119, 120, 121, 122]⟩ : ByteArray)[v].toNat : Int)))
      have hcv : (convert 34 9 (.slice (some ⟨w.heap.size, p, none⟩) (k + 1) (k + 1))).run Tryz.prog (wr.setCell ⟨w.heap.size, p, none⟩ (.int .u8 ((⟨#[48, 49, 50, 51, 52, 53, 54, 55, 56, 57, 97, 98, 99, 100, 101, 102, 103, 104, 105, 106, 107, 108, 109, 110, 111, 112, 113, 114, 115, 116, 117, 118, 119, 120, 121, 122]⟩ : ByteArray)[v].toNat : Int))) = .ok (.string ⟨(hexL v :: ds).toArray⟩) (wr.setCell ⟨w.heap.size, p, none⟩ (.int .u8 ((⟨#[48, 49, 50, 51, 52, 53, 54, 55, 56, 57, 97, 98, 99, 100, 101, 102, 103, 104, 105, 106, 107, 108, 109, 110, 111, 112, 113, 114, 115, 116, 117, 118, 119, 120, 121, 122]⟩ : ByteArray)[v].toNat : Int))) := by
        have h := run_convert_bytes_back (P := Tryz.prog) (wr.setCell ⟨w.heap.size, p, none⟩ (.int .u8 ((⟨#[48, 49, 50, 51, 52, 53, 54, 55, 56, 57, 97, 98, 99, 100, 101, 102, 103, 104, 105, 106, 107, 108, 109, 110, 111, 112, 113, 114, 115, 116, 117, 118, 119, 120, 121, 122]⟩ : ByteArray)[v].toNat : Int))) 34 9 5 ⟨w.heap.size, p, none⟩ (k + 1) (hexL v :: ds) Tryz.underlying34 Tryz.underlying5 Tryz.underlying9 (fun j hj => by
          rw [show (⟨w.heap.size, p, none⟩ : Addr).add j = ⟨w.heap.size, p + j, none⟩ by unfold Addr.add; split <;> simp_all]
          match j, hj with
          | 0, _ => exact (World.cell?_setCell_same _ _ _ hc).trans (by rw [dig36 _ _ (by omega)]; rfl)
          | j + 1, hj =>
            rw [World.cell?_setCell_other _ _ _ _ (by intro h; cases h), show p + (j + 1) = p + 1 + j by omega]
            exact HCL.out j _ (by simp))
        rw [List.length_cons, hdl] at h
        exact h
      have HFIN : Hid (hexL v :: ds = digsF 16 3 u) := by
        show _ = _
        rw [← HDIG.out]
        have : digsF 16 (3 - k) v = [hexL v] := by
          cases h3 : 3 - k with
          | zero => rfl
          | succ m => unfold digsF; rw [if_pos (by omega)]
        rw [this]
        rfl
      go_wp2
      go_ret2
      refine ⟨?_, hbw.setCell (Nat.le_refl _) _⟩
      rw [HFIN.out]
      rfl

set_option maxHeartbeats 1000000 in
theorem Tryz.fmt16_inner (u : Nat) (hu : u < 65536) (w : World) (henv : Tryz.Env w) (htz : Tryz.Tz w) :
    Calls Tryz.prog 175 #[.int .u64 u, .int .i64 16] w fun e w' => e = .returned (.string ⟨(digsF 16 3 u).toArray⟩) ∧ Below w.heap.size w w' := by
  have HV : Hid (Tryz.Env w) := henv
  have HT : Hid (Tryz.Tz w) := htz
  clear henv htz
  go_enter Tryz.func175, Tryz.ntmps175
  go_wp2_with fail
  refine (Tryz.fmtBits16 u hu _ HV.out HT.out).mono ?_
  rintro e w' ⟨rfl, hb⟩
  go_wp2
  go_ret
  exact ⟨rfl, hb⟩

set_option maxHeartbeats 1000000 in
theorem Tryz.fmt16_any (u : Nat) (hu : u < 65536) (w : World) (henv : Tryz.Env w) (htz : Tryz.Tz w) :
    Calls Tryz.prog 141 #[.int .u64 u, .int .i64 16] w fun e w' => e = .returned (.string ⟨(digsF 16 3 u).toArray⟩) ∧ Below w.heap.size w w' := by
  have HV : Hid (Tryz.Env w) := henv
  have HT : Hid (Tryz.Tz w) := htz
  clear henv htz
  go_enter Tryz.func141, Tryz.ntmps141
  go_wp2_with fail
  refine (Tryz.fmt16_inner u hu _ HV.out HT.out).mono ?_
  rintro e w' ⟨rfl, hb⟩
  go_wp2
  go_ret
  exact ⟨rfl, hb⟩
end Go.Proofs
