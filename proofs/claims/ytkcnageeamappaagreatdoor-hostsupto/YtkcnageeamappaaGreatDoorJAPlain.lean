/-
  What strconv.FormatUint answers by base 16 of a number below 65536.
-/
import Derived.Test.YtkcnageeamappaaGreatDoorJSPlain
import Derived.Test.YtkcnageeamappaaGreatDoorJSIp6
import Derived.Test.YtkcnageeamappaaGreatDoorJLaid
import Derived.Test.YtkcnageeamappaaGreatDoorJEnv
namespace Go.Proofs
open Go.RowKit Go.Moor

/-- The one cell of the table that the base 16 wants. -/
def Tryz.Tz (w : World) : Prop := w.cell? ⟨28, 15, none⟩ = some (.int .u8 4)

theorem Tryz.Tz.below {w w' : World} (h : Tryz.Tz w) (hb : Below w.heap.size w w') (hz : 28 < w.heap.size) : Tryz.Tz w' := by
  show _ = _
  rw [hb.cell (p := ⟨28, 15, none⟩) hz]
  exact h

set_option maxHeartbeats 1000000 in
set_option maxRecDepth 100000 in
theorem Tryz.tz64_16 (w : World) (h : Tryz.Tz w) :
    Calls Tryz.prog 314 #[.int .u64 16] w fun e w' => e = .returned (.int .i64 4) ∧ w' = w := by
  have hc : w.cell? ⟨28, 15, none⟩ = some (.int .u8 4) := h
  have h0 : IntKind.u64.wrap (-16) = 18446744073709551600 := by kernel_rfl
  have h1 : bits .and .u64 16 18446744073709551600 = 16 := by kernel_rfl
  have h2 : IntKind.u64.wrap 4573923408821661840 = 4573923408821661840 := by kernel_rfl
  clear h
  go_enter Tryz.func314, Tryz.ntmps314
  go_wp2
  go_ret
  exact ⟨rfl, rfl⟩

set_option maxHeartbeats 1000000 in
theorem Tryz.tz_16 (w : World) (h : Tryz.Tz w) :
    Calls Tryz.prog 292 #[.int .u64 16] w fun e w' => e = .returned (.int .i64 4) ∧ w' = w := by
  have H : Hid (Tryz.Tz w) := h
  clear h
  go_enter Tryz.func292, Tryz.ntmps292
  go_wp2_with (go_at_call 314; refine (Tryz.tz64_16 _ H.out).mono ?_; rintro e w' ⟨rfl, rfl⟩)
  go_ret
  exact ⟨rfl, rfl⟩

set_option maxHeartbeats 1000000 in
theorem Tryz.pow2_16 (w : World) :
    Calls Tryz.prog 291 #[.int .i64 16] w fun e w' => e = .returned (.bool true) ∧ w' = w := by
  have h1 : bits .and .i64 16 15 = 0 := by kernel_rfl
  go_enter Tryz.func291, Tryz.ntmps291
  go_wp2
  go_ret
  exact ⟨rfl, rfl⟩

theorem and_low4 (v : Nat) (h : v < 65536) : bits .and .u64 (v : Int) 15 = ((v % 16 : Nat) : Int) := by
  rw [show (15 : Int) = ((15 : Nat) : Int) from rfl, u64_and_nat v 15 (by omega) (by omega), show (15 : Nat) = 2 ^ 4 - 1 from rfl, Nat.and_two_pow_sub_one_eq_mod]

theorem dig36 (m : Nat) (h : m < (⟨#[48, 49, 50, 51, 52, 53, 54, 55, 56, 57, 97, 98, 99, 100, 101, 102, 103, 104, 105, 106, 107, 108, 109, 110, 111, 112, 113, 114, 115, 116, 117, 118, 119, 120, 121, 122]⟩ : ByteArray).size) (h16 : m < 16) : (⟨#[48, 49, 50, 51, 52, 53, 54, 55, 56, 57, 97, 98, 99, 100, 101, 102, 103, 104, 105, 106, 107, 108, 109, 110, 111, 112, 113, 114, 115, 116, 117, 118, 119, 120, 121, 122]⟩ : ByteArray)[m] = hexL m := by
  match m, h16 with
  | 0, _ => rfl
  | 1, _ => rfl
  | 2, _ => rfl
  | 3, _ => rfl
  | 4, _ => rfl
  | 5, _ => rfl
  | 6, _ => rfl
  | 7, _ => rfl
  | 8, _ => rfl
  | 9, _ => rfl
  | 10, _ => rfl
  | 11, _ => rfl
  | 12, _ => rfl
  | 13, _ => rfl
  | 14, _ => rfl
  | 15, _ => rfl
  | m + 16, h => exact absurd h (by omega)

theorem Tryz.len65 : Tryz.prog.arrayLen 285 = 65 := by kernel_rfl
theorem Tryz.elem65 : Tryz.prog.elem 285 = 5 := by kernel_rfl
theorem Tryz.array65 : Tryz.prog.underlying 285 = some (.array (Tryz.prog.arrayLen 285) (Tryz.prog.elem 285)) := by rw [Tryz.len65, Tryz.elem65]; exact Tryz.underlying285
theorem Tryz.sizeU8 : (Tryz.prog.info? 5).map (·.size) = some 1 := by kernel_rfl
theorem Tryz.sizeRun8 (w : World) : (sizeOf 5).run Tryz.prog w = .ok 1 w := by
  have h := Tryz.sizeU8
  cases hq : Tryz.prog.info? 5 with
  | none => rw [hq] at h; simp at h
  | some i =>
    rw [hq] at h
    have : i.size = 1 := by simpa using h
    simp [sizeOf, typeInfo, hq, this]
theorem Tryz.slice65_low (g d n : Nat) (hd : d < 65) (hn : d + n = 65) (w : World) : (Instr.sliceAt 285 (.pointer (some ⟨g, 0, none⟩)) (some (.int .i64 d)) none none).run Tryz.prog w = .ok (.slice (some ⟨g, d, none⟩) n n) w := by
  rw [run_sliceAt_array_l w 285 ⟨g, 0, none⟩ Tryz.array65 .i64 d (by omega) (by rw [Tryz.len65]; omega), Tryz.elem65, Tryz.sizeRun8, Tryz.len65]
  simp only [Result.andThen, slicedAt, Int.toNat_natCast, Nat.mul_one]
  rw [if_neg (by omega), show (⟨g, 0, none⟩ : Addr).add d = ⟨g, d, none⟩ by unfold Addr.add; split <;> simp_all, show 65 - d = n by omega]

set_option maxHeartbeats 4000000 in
set_option maxRecDepth 100000 in
theorem Tryz.fmtBits16 (u : Nat) (hu : u < 65536) (w : World) (henv : Tryz.Env w) (htz : Tryz.Tz w) :
    Calls Tryz.prog 257 #[.slice none 0 0, .int .u64 u, .int .i64 16, .bool false, .bool false] w fun e w' => e = .returned (.tuple #[.slice none 0 0, .string ⟨(digsF 16 3 u).toArray⟩]) ∧ Below w.heap.size w w' := by
  have HV : Hid (Tryz.Env w) := henv
  have HT : Hid (Tryz.Tz w) := htz
  have HT1 : Hid (Tryz.Tz (w.alloc (.cells Tryz.zeroCells285 285))) := HT.out.below ((Below.refl _ w).alloc (Nat.le_refl _) _) (by have := HV.out.size; omega)
  clear henv htz
  go_enter Tryz.func257, Tryz.ntmps257
  go_wp2_with fail
  refine (Tryz.pow2_16 _).mono ?_
  rintro e w1 ⟨rfl, hw1⟩
  have hw1 := hw1.symm
  subst hw1
  go_wp2_with fail
  refine (Tryz.tz_16 _ HT1.out).mono ?_
  rintro e w1 ⟨rfl, hw1⟩
  have hw1 := hw1.symm
  subst hw1
  go_wp2
  go_loopw [1, 13] (fun t i wr => ∃ (v k n : Nat) (ds : List UInt8), t = .int .u64 v ∧ i = .int .i64 n ∧ n + k = 65 ∧ k ≤ 3 ∧ ds.length = k ∧ v < 16 ^ (4 - k) ∧ digsF 16 (3 - k) v ++ ds = digsF 16 3 u ∧ (∀ j, j < 65 → (wr.cell? ⟨w.heap.size, j, none⟩).isSome = true) ∧ (∀ j, j < 65 → wr.frozen? ⟨w.heap.size, j, none⟩ = false) ∧ (∀ (j : Nat) x, ds[j]? = some x → wr.cell? ⟨w.heap.size, n + j, none⟩ = some (.int .u8 (x.toNat : Int))) ∧ Below w.heap.size w wr) (fun t _ _ => (intOf t).toNat)
  case atStart =>
    refine ⟨u, 0, 65, [], rfl, rfl, rfl, by omega, rfl, by simpa using hu, by simp, ?_, ?_, by simp, (Below.refl _ w).alloc (Nat.le_refl _) _⟩
    · intro j hj
      rw [World.cell?_alloc_new]
      simp
      exact hj
    · intro j hj
      exact World.frozen?_alloc_new _ _ _ _
  case round =>
    obtain ⟨v, k, n, ds, rfl, rfl, hnk, hk3, hdl, hv, hdig, hcs, hfs, hcl, hbw⟩ := hrel
    have HDIG : Hid (digsF 16 (3 - k) v ++ ds = digsF 16 3 u) := hdig
    have HCS : Hid (∀ j, j < 65 → (wr.cell? ⟨w.heap.size, j, none⟩).isSome = true) := hcs
    have HFS : Hid (∀ j, j < 65 → wr.frozen? ⟨w.heap.size, j, none⟩ = false) := hfs
    have HCL : Hid (∀ (j : Nat) x, ds[j]? = some x → wr.cell? ⟨w.heap.size, n + j, none⟩ = some (.int .u8 (x.toNat : Int))) := hcl
    have HV4 : Hid (v < 16 ^ (4 - k)) := hv
    have hv5 : v < 65536 := Nat.lt_of_lt_of_le hv (by
      have : k = 0 ∨ k = 1 ∨ k = 2 ∨ k = 3 := by omega
      rcases this with rfl | rfl | rfl | rfl <;> decide)
    obtain ⟨p, rfl⟩ : ∃ p, n = p + 1 := ⟨n - 1, by omega⟩
    obtain ⟨c, hc⟩ := Option.isSome_iff_exists.1 (hcs p (by omega))
    have hf := hfs p (by omega)
    have hp65 : p < 65 := by omega
    clear hdig hcs hfs hcl hv
    by_cases h16 : 16 ≤ v
    · have HA : Hid (bits .and .u64 (v : Int) 15 = ((v % 16 : Nat) : Int)) := and_low4 v hv5
      have hA := HA.out
      go_wp2
      go_roundw
      case rel =>
        have hk2 : k ≤ 2 := by
          rcases (show k ≤ 2 ∨ k = 3 by omega) with h | h
          · exact h
          · exfalso
            have h3 := HV4.out
            rw [h] at h3
            have h4 : v < 16 := h3
            omega
        refine ⟨v / 16, k + 1, p, hexL (v % 16) :: ds, by simp, rfl, by omega, by omega, by simp [hdl], ?_, ?_, ?_, ?_, ?_, hbw.setCell (Nat.le_refl _) _⟩
        · have h1 := HV4.out
          rw [show 4 - k = (4 - (k + 1)) + 1 by omega, Nat.pow_succ] at h1
          rw [Nat.mul_comm] at h1
          exact Nat.div_lt_of_lt_mul h1
        · have h1 := HDIG.out
          rw [show 3 - k = (3 - (k + 1)) + 1 by omega, digsF, if_neg (by omega), List.append_assoc] at h1
          exact h1
        · intro j hj
          by_cases hjp : j = p
          · subst hjp
            rw [World.cell?_setCell_same _ _ _ hc]; rfl
          · rw [World.cell?_setCell_other _ _ _ _ (by intro h; cases h; exact hjp rfl)]
            exact HCS.out j hj
        · intro j hj
          rw [World.frozen?_setCell]
          exact HFS.out j hj
        · intro j x hx
          match j, hx with
          | 0, hx =>
            simp at hx
            subst hx
            exact (World.cell?_setCell_same _ _ _ hc).trans (by rw [dig36 _ _ (by omega)])
          | j + 1, hx =>
            rw [World.cell?_setCell_other _ _ _ _ (by intro h; cases h), show p + (j + 1) = p + 1 + j by omega]
            exact HCL.out j x (by simpa using hx)
      case measure => simp [intOf]; omega
    · have hs36 : v < (⟨#[48, 49, 50, 51, 52, 53, 54, 55, 56, 57, 97, 98, 99, 100, 101, 102, 103, 104, 105, 106, 107, 108, 109, 110, 111, 112, 113, 114, 115, 116, 117, 118, 119, 120, 121, 122]⟩ : ByteArray).size := by show v < 36; omega
      have hsl := Tryz.slice65_low w.heap.size p (k + 1) (by omega) (by omega) (wr.setCell ⟨w.heap.size, p, none⟩ (.int .u8 ((⟨#[48, 49, 50, 51, 52, 53, 54, 55, 56, 57, 97, 98, 99, 100, 101, 102, 103, 104, 105, 106, 107, 108, 109, 110, 111, 112, 113, 114, 115, 116, 117, 118, 119, 120, 121, 122]⟩ : ByteArray)[v].toNat : Int)))
      have hcv : (convert 47 9 (.slice (some ⟨w.heap.size, p, none⟩) (k + 1) (k + 1))).run Tryz.prog (wr.setCell ⟨w.heap.size, p, none⟩ (.int .u8 ((⟨#[48, 49, 50, 51, 52, 53, 54, 55, 56, 57, 97, 98, 99, 100, 101, 102, 103, 104, 105, 106, 107, 108, 109, 110, 111, 112, 113, 114, 115, 116, 117, 118, 119, 120, 121, 122]⟩ : ByteArray)[v].toNat : Int))) = .ok (.string ⟨(hexL v :: ds).toArray⟩) (wr.setCell ⟨w.heap.size, p, none⟩ (.int .u8 ((⟨#[48, 49, 50, 51, 52, 53, 54, 55, 56, 57, 97, 98, 99, 100, 101, 102, 103, 104, 105, 106, 107, 108, 109, 110, 111, 112, 113, 114, 115, 116, 117, 118, 119, 120, 121, 122]⟩ : ByteArray)[v].toNat : Int))) := by
        have h := run_convert_bytes_back (P := Tryz.prog) (wr.setCell ⟨w.heap.size, p, none⟩ (.int .u8 ((⟨#[48, 49, 50, 51, 52, 53, 54, 55, 56, 57, 97, 98, 99, 100, 101, 102, 103, 104, 105, 106, 107, 108, 109, 110, 111, 112, 113, 114, 115, 116, 117, 118, 119, 120, 121, 122]⟩ : ByteArray)[v].toNat : Int))) 47 9 5 ⟨w.heap.size, p, none⟩ (k + 1) (hexL v :: ds) Tryz.underlying47 Tryz.underlying5 Tryz.underlying9 (fun j hj => by
          rw [show (⟨w.heap.size, p, none⟩ : Addr).add j = ⟨w.heap.size, p + j, none⟩ by unfold Addr.add; split <;> simp_all]
          match j, hj with
          | 0, _ => exact (World.cell?_setCell_same _ _ _ hc).trans (by rw [dig36 _ _ (by omega)]; rfl)
          | j + 1, hj =>
            rw [World.cell?_setCell_other _ _ _ _ (by intro h; cases h), show p + (j + 1) = p + 1 + j by omega]
            exact HCL.out j _ (by simp))
        rw [List.length_cons, hdl] at h
        exact h
      have HFIN : Hid (hexL v :: ds = digsF 16 3 u) := by
        show _ = _
        rw [← HDIG.out]
        have : digsF 16 (3 - k) v = [hexL v] := by
          cases h3 : 3 - k with
          | zero => rfl
          | succ m => unfold digsF; rw [if_pos (by omega)]
        rw [this]
        rfl
      go_wp2
      go_ret2
      refine ⟨?_, hbw.setCell (Nat.le_refl _) _⟩
      rw [HFIN.out]
      rfl

set_option maxHeartbeats 1000000 in
theorem Tryz.fmt16_inner (u : Nat) (hu : u < 65536) (w : World) (henv : Tryz.Env w) (htz : Tryz.Tz w) :
    Calls Tryz.prog 239 #[.int .u64 u, .int .i64 16] w fun e w' => e = .returned (.string ⟨(digsF 16 3 u).toArray⟩) ∧ Below w.heap.size w w' := by
  have HV : Hid (Tryz.Env w) := henv
  have HT : Hid (Tryz.Tz w) := htz
  clear henv htz
  go_enter Tryz.func239, Tryz.ntmps239
  go_wp2_with fail
  refine (Tryz.fmtBits16 u hu _ HV.out HT.out).mono ?_
  rintro e w' ⟨rfl, hb⟩
  go_wp2
  go_ret
  exact ⟨rfl, hb⟩

set_option maxHeartbeats 1000000 in
theorem Tryz.fmt16_any (u : Nat) (hu : u < 65536) (w : World) (henv : Tryz.Env w) (htz : Tryz.Tz w) :
    Calls Tryz.prog 203 #[.int .u64 u, .int .i64 16] w fun e w' => e = .returned (.string ⟨(digsF 16 3 u).toArray⟩) ∧ Below w.heap.size w w' := by
  have HV : Hid (Tryz.Env w) := henv
  have HT : Hid (Tryz.Tz w) := htz
  clear henv htz
  go_enter Tryz.func203, Tryz.ntmps203
  go_wp2_with fail
  refine (Tryz.fmt16_inner u hu _ HV.out HT.out).mono ?_
  rintro e w' ⟨rfl, hb⟩
  go_wp2
  go_ret
  exact ⟨rfl, hb⟩
end Go.Proofs
/-
  What the row's list gives of the table that the base 16 wants.
-/
namespace Go.Proofs.YtkcnageeamappaaGreatDoor
open Go.ChangeShapes Go.WideShapes Go.ChangeAt Go.RowKit Go.Moor

def tab64 : List Int := [0, 1, 56, 2, 57, 49, 28, 3, 61, 58, 42, 50, 38, 29, 17, 4, 62, 47, 59, 36, 45, 43, 51, 22, 53, 39, 33, 30, 24, 18, 12, 5, 63, 55, 48, 27, 60, 41, 37, 16, 46, 35, 44, 21, 52, 32, 23, 11, 54, 26, 40, 15, 34, 20, 31, 10, 25, 14, 19, 9, 13, 8, 7, 6]
theorem gTz : Tryz.prog.globalNamed "math/bits.deBruijn64tab" = some 28 := by kernel_rfl
theorem gTzType : (Tryz.prog.globals[28]?).map (·.type) = some 313 := by kernel_rfl
theorem cellsByte : Tryz.prog.cellsOf 5 = 1 := by kernel_rfl
theorem cellsTz : Tryz.prog.cellsOf 313 = 64 := by kernel_rfl
theorem laid_tz : (Rows.laid_math_bits_deBruijn64tab : DataW Unit) = Lib.tabData .u8 tab64 := by kernel_rfl

theorem tz_of_reads {W : World} (h : Lib.VarReads Tryz.prog W "math/bits.deBruijn64tab" Rows.laid_math_bits_deBruijn64tab) : Tryz.Tz W := by
  obtain ⟨g', t', cs, fuel, p, hg', ht', hvar, hd⟩ := h
  obtain rfl := Option.some.inj (gTz.symm.trans hg')
  obtain rfl := Option.some.inj (gTzType.symm.trans ht')
  rw [laid_tz] at hd
  have h3 := Lib.cells_of_tab Tryz.underlying313 Tryz.underlying5 cellsByte cellsTz hd
  show _ = _
  rw [World.var?_cell gTz hvar 15, ← Array.getElem?_toList, h3]
  rfl

theorem tz_of_laid {W : World} (h : laidMetH Tryz.prog Rows.foursRow.laid W) : Tryz.Tz W := by
  obtain ⟨hp, _⟩ := laid_parts h
  exact tz_of_reads (Lib.laidMet.reads hp (by simp [plainLaid]))
end Go.Proofs.YtkcnageeamappaaGreatDoor
/-
  Plain functions on lists of bytes: an address, cut at its marks, read beside another one, and told; no program is named here. What hosts are is handed in (H).
-/
namespace Go.Moor
open Go

abbrev Bs := List UInt8

/-- User, password, whether there is a host, the host, the port (-1: none). -/
structure Auth where
  user : Bs
  pass : Bs
  has : Bool
  host : Bs
  port : Int

/-- A path is a text, if it is opaque, and else segments. -/
structure Way where
  opaq : Bool
  text : Bs
  segs : List Bs

structure Adr where
  scheme : Bs
  auth : Auth
  way : Way
  query : Option Bs
  frag : Option Bs

/-- A text, cut at its marks. -/
structure Cuts where
  scheme : Bs
  middle : Bs
  query : Option Bs
  frag : Option Bs

def noAuth : Auth := ⟨[], [], false, [], -1⟩

-- schemes
def isLetter (c : UInt8) : Bool := (decide (65 ≤ c.toNat) && decide (c.toNat ≤ 90)) || (decide (97 ≤ c.toNat) && decide (c.toNat ≤ 122))
def schemeByte (c : UInt8) : Bool := isLetter c || (decide (48 ≤ c.toNat) && decide (c.toNat ≤ 57)) || c == 43 || c == 45 || c == 46
def begLetter : Bs → Bool
  | [] => false
  | c :: _ => isLetter c
def isSchemeB (l : Bs) : Bool := begLetter l && l.all schemeByte

def sHttp : Bs := [104, 116, 116, 112]
def sHttps : Bs := [104, 116, 116, 112, 115]
def sWs : Bs := [119, 115]
def sWss : Bs := [119, 115, 115]
def sFtp : Bs := [102, 116, 112]
def sFile : Bs := [102, 105, 108, 101]

def ownPort (s : Bs) : Int × Bool :=
  if s = sHttp ∨ s = sWs then (80, true)
  else if s = sHttps ∨ s = sWss then (443, true)
  else if s = sFtp then (21, true)
  else if s = sFile then (-1, true)
  else (-1, false)
def special (s : Bs) : Bool := (ownPort s).2
def querySet (s : Bs) : Int := if special s then 3 else 2

-- cutting
def cutB (c : UInt8) : Bs → Option (Bs × Bs)
  | [] => none
  | b :: l => if b = c then some ([], l) else (cutB c l).map fun p => (b :: p.1, p.2)

def cutScheme (t : Bs) : Bs × Bs :=
  match cutB 58 t with
  | some (n, r) => if isSchemeB n then (Lib.toLowerA n, r) else ([], t)
  | none => ([], t)

def cutOpt (c : UInt8) (t : Bs) : Bs × Option Bs :=
  match cutB c t with
  | some (a, b) => (a, some b)
  | none => (t, none)

def cutMarks (t : Bs) : Cuts :=
  let s := cutScheme t
  let f := cutOpt 35 s.2
  let q := cutOpt 63 f.1
  ⟨s.1, q.1, q.2, f.2⟩

def blankB (c : UInt8) : Bool := decide (c.toNat < 33)
def breakB (c : UInt8) : Bool := c == 9 || c == 10 || c == 13
def trimB (p : UInt8 → Bool) (l : Bs) : Bs := ((l.dropWhile p).reverse.dropWhile p).reverse
def stripB (t : Bs) : Bs := (trimB blankB t).filter fun c => !breakB c

def evenSlashes (s t : Bs) : Bs := if special s then t.map fun c => if c = 92 then 47 else c else t
/-- Up to the first slash; what is behind begins with it. -/
def cutSlash (t : Bs) : Bs × Bs := (t.takeWhile (· ≠ 47), t.dropWhile (· ≠ 47))
def trimSlash (t : Bs) : Bs := match t with | 47 :: l => l | l => l

-- paths
def dotTexts : List Bs := [[46], [37, 50, 101]]
def lowDots : Bs → Bs
  | 37 :: 50 :: 69 :: l => 37 :: 50 :: 101 :: lowDots l
  | c :: l => c :: lowDots l
  | [] => []
/-- For how many dots a segment stands: one, two, or none. -/
def dots (p : Bs) : Nat :=
  let l := lowDots p
  if l = [46] ∨ l = [37, 50, 101] then 1
  else if l = [46, 46] ∨ l = [46, 37, 50, 101] ∨ l = [37, 50, 101, 46] ∨ l = [37, 50, 101, 37, 50, 101] then 2
  else 0

def isDrive : Bs → Bool
  | [a, b] => isLetter a && (b == 58 || b == 124)
  | _ => false
def toldDrive (l : Bs) : Bool := isDrive l && l.getD 1 0 == 58

def withoutLast (s : Bs) (segs : List Bs) : List Bs :=
  if segs.length = 1 ∧ s = sFile ∧ toldDrive (segs.headD []) = true then segs else segs.dropLast
def tellSeg (s p : Bs) (first : Bool) : Bs := if first && decide (s = sFile) && isDrive p then p.take 1 ++ [58] else esc 4 p

def segLoop (s : Bs) : List Bs → List Bs → List Bs
  | segs, [] => segs
  | segs, p :: l =>
    if dots p = 0 then segLoop s (segs ++ [tellSeg s p segs.isEmpty]) l
    else segLoop s ((if dots p = 2 then withoutLast s segs else segs) ++ (if l.isEmpty then [[]] else [])) l
def readSegs (s : Bs) (begun : List Bs) (t : Bs) : List Bs :=
  if t = [] ∧ special s = false then begun else segLoop s begun (splitOn 47 (trimSlash t))
def readWay (s : Bs) (begun : List Bs) (t : Bs) : Way := ⟨false, [], readSegs s begun t⟩

-- authorities
/-- The last of a byte. -/
def cutLast (c : UInt8) (t : Bs) : Option (Bs × Bs) := (cutB c t.reverse).map fun p => (p.2.reverse, p.1.reverse)
def cutLogin (t : Bs) : Bs × Bs :=
  match cutLast 64 t with
  | some (a, b) => (a, b)
  | none => ([], t)
def brackets (t : Bs) : Nat := if t.head? = some 91 then (match cutB 93 t with | some (a, _) => a.length + 1 | none => 0) else 0
def cutPort (t : Bs) : Bs × Bs :=
  match cutB 58 (t.drop (brackets t)) with
  | some (a, b) => (t.take (brackets t) ++ a, b)
  | none => (t, [])

def decAcc : Nat → Bs → Nat
  | n, [] => n
  | n, c :: l => decAcc (n * 10 + (c.toNat - 48)) l
def isDigit (c : UInt8) : Bool := decide (48 ≤ c.toNat) && decide (c.toNat ≤ 57)
def readPort (t s : Bs) : Option Int :=
  if t = [] then some (-1)
  else if t.all isDigit && decide (decAcc 0 t ≤ 65535) then (if (decAcc 0 t : Int) = (ownPort s).1 then some (-1) else some (decAcc 0 t))
  else none

section
variable (H : Bs → Bool → Option Bs)

def tellHost (t authority s : Bs) : Option Bs := if t = [] ∧ authority ≠ [] then none else H t (special s)

/-- An authority, or the number of its error. -/
def readAuth (t s : Bs) : Except Int Auth :=
  let lp := cutLogin t
  let up := cutOpt 58 lp.1
  let hp := cutPort lp.2
  match tellHost H hp.1 t s with
  | none => .error 4
  | some h => match readPort hp.2 s with
    | none => .error 5
    | some p => .ok ⟨esc 5 up.1, esc 5 (up.2.getD []), true, h, p⟩

def fromAuth (s t : Bs) : Except Int (Auth × Way) :=
  let c := cutSlash t
  match readAuth H c.1 s with
  | .error e => .error e
  | .ok a => .ok (a, readWay s [] c.2)

-- files
def fileHost (t : Bs) : Option Bs :=
  if t = [] then some [] else match H t true with
    | none => none
    | some h => if h = [108, 111, 99, 97, 108, 104, 111, 115, 116] then some [] else some h
def fileAuth (h : Bs) : Auth := ⟨[], [], true, h, -1⟩

/-- Path and query of what goes on from a base. -/
def goOn (s m : Bs) (q : Option Bs) (base : Adr) : Way × Option Bs :=
  if m ≠ [] then (readWay s (withoutLast s base.way.segs) m, q) else (base.way, if q.isSome then q else base.query)

def driveOf (segs : List Bs) : List Bs := if segs.length > 0 ∧ toldDrive (segs.headD []) = true then segs.take 1 else []

def readFile (m : Bs) (q : Option Bs) (base : Option Adr) : Except Int (Auth × Way × Option Bs) :=
  if [47, 47].isPrefixOf m then
    let c := cutSlash (m.drop 2)
    if isDrive c.1 then .ok (fileAuth [], readWay sFile [] (m.drop 2), q)
    else match fileHost H c.1 with
      | none => .error 4
      | some h => .ok (fileAuth h, readWay sFile [] c.2, q)
  else match base with
    | none => .ok (fileAuth [], readWay sFile [] m, q)
    | some b =>
      if isDrive (cutSlash (trimSlash m)).1 then .ok (fileAuth b.auth.host, readWay sFile [] m, q)
      else if m.head? = some 47 then .ok (fileAuth b.auth.host, readWay sFile (driveOf b.way.segs) m, q)
      else let g := goOn sFile m q b
        .ok (fileAuth b.auth.host, g.1, g.2)

def trimSlashes (t : Bs) : Bs := t.dropWhile (· = 47)
def escOpaque (t : Bs) : Bs := (esc 0 t).flatMap fun c => if c = 32 then [37, 50, 48] else [c]

def readRelative (s m : Bs) (q : Option Bs) (b : Adr) : Except Int (Auth × Way × Option Bs) :=
  if [47, 47].isPrefixOf m then
    match fromAuth H s (if special s then trimSlashes (m.drop 2) else m.drop 2) with
    | .error e => .error e
    | .ok (a, w) => .ok (a, w, q)
  else if m.head? = some 47 then .ok (b.auth, readWay s [] m, q)
  else let g := goOn s m q b
    .ok (b.auth, g.1, g.2)

def readOther (s m : Bs) : Except Int (Auth × Way) :=
  if [47, 47].isPrefixOf m then fromAuth H s (m.drop 2)
  else if m.head? = some 47 then .ok (noAuth, readWay s [] m)
  else .ok (noAuth, ⟨true, escOpaque m, []⟩)

def readMiddle (s m : Bs) (q : Option Bs) (base : Option Adr) : Except Int (Auth × Way × Option Bs) :=
  if s = sFile then readFile H m q base
  else match base with
    | some b => readRelative H s m q b
    | none => match (if special s then fromAuth H s (trimSlashes m) else readOther H s m) with
      | .error e => .error e
      | .ok (a, w) => .ok (a, w, q)

def readMarked (s m : Bs) (q f : Option Bs) (base : Option Adr) : Except Int Adr :=
  match readMiddle H s (evenSlashes s m) (q.map (esc (querySet s))) base with
  | .error e => .error e
  | .ok (a, w, q2) => .ok ⟨s, a, w, q2, f.map (esc 1)⟩

def readCuts (c : Cuts) (base : Option Adr) : Except Int Adr :=
  if c.scheme ≠ [] then
    readMarked H c.scheme c.middle c.query c.frag (base.bind fun b => if b.scheme = c.scheme ∧ special c.scheme = true then some b else none)
  else match base with
    | none => .error 3
    | some b =>
      if b.way.opaq then (if c.middle = [] ∧ c.query = none ∧ c.frag.isSome then .ok { b with frag := c.frag.map (esc 1) } else .error 3)
      else readMarked H b.scheme c.middle c.query c.frag (some b)

def readAddr (t : Bs) (base : Option Adr) : Except Int Adr := readCuts H (cutMarks (stripB t)) base
def readBeside (t base : Bs) : Except Int Adr :=
  if base = [] then readAddr H t none
  else match readAddr H base none with
    | .error _ => .error 2
    | .ok b => readAddr H t (some b)
end

-- telling
def decB (p : Int) : Bs := Lib.decDigits p.toNat
def tellPlace (a : Auth) : Bs := if a.port = -1 then a.host else a.host ++ 58 :: decB a.port
def tellLogin (a : Auth) : Bs := if a.pass ≠ [] then a.user ++ 58 :: (a.pass ++ [64]) else if a.user ≠ [] then a.user ++ [64] else []
def tellAuth (a : Auth) : Bs := if a.has then 47 :: 47 :: (tellLogin a ++ tellPlace a) else []
def tellSegs (l : List Bs) : Bs := l.flatMap fun p => 47 :: p
def tellWay (w : Way) : Bs := if w.opaq then w.text else tellSegs w.segs
def guardB (a : Adr) : Bs := if a.auth.has = false ∧ 1 < a.way.segs.length ∧ a.way.segs.head? = some [] then [47, 46] else []
def tellOpt (c : UInt8) : Option Bs → Bs
  | none => []
  | some t => c :: t
def tellAddr (a : Adr) : Bs := a.scheme ++ 58 :: (tellAuth a.auth ++ (guardB a ++ (tellWay a.way ++ (tellOpt 63 a.query ++ tellOpt 35 a.frag))))

def parse (H : Bs → Bool → Option Bs) (t base : Bs) : Except Int Bs :=
  if t.length > 2000 ∨ base.length > 2000 then .error 1
  else match readBeside H t base with
    | .error e => .error e
    | .ok a => .ok (tellAddr a)
end Go.Moor
