import Derived.Test.YtkcnageeamappaaGreatDoorXSLast
import Derived.Laws.CopyOwn
import Derived.Laws.ResultCell
import Derived.Laws.Rows
namespace Go.Proofs
open Go.RowKit Go.Moor
theorem Tryz.size8 : (Tryz.prog.info? 177).map (·.size) = some 8 := by kernel_rfl
theorem Tryz.sizeU64 : (Tryz.prog.info? 151).map (·.size) = some 1 := by kernel_rfl
theorem three_blocks (w : World) (a b c : Obj) : (((w.alloc a).alloc b).alloc c).heap[w.heap.size]? = some a ∧ (((w.alloc a).alloc b).alloc c).heap[w.heap.size + 1]? = some b ∧ (((w.alloc a).alloc b).alloc c).heap[w.heap.size + 2]? = some c ∧ (((w.alloc a).alloc b).alloc c).heap.size = w.heap.size + 3 := by
  simp only [World.alloc, Array.getElem?_push, Array.size_push]
  refine ⟨?_, ?_, ?_, ?_⟩
  · rw [if_neg (by omega), if_neg (by omega), if_pos trivial]
  · rw [if_neg (by omega), if_pos trivial]
  · rw [if_pos trivial]
  · trivial
theorem cells8_one (l : List Int) : (cells8 l).all (·.oneCell') = true := by
  unfold cells8
  rw [List.all_toArray, List.all_eq_true]
  intro u hu
  exact ints_oneCell .u64 l u hu
theorem cells8_size (l : List Int) : (cells8 l).size = l.length := by simp [cells8]
theorem Tryz.len8 : Tryz.prog.arrayLen 177 = 8 := by kernel_rfl
theorem Tryz.elem8 : Tryz.prog.elem 177 = 151 := by kernel_rfl
theorem Tryz.array8 : Tryz.prog.underlying 177 = some (.array (Tryz.prog.arrayLen 177) (Tryz.prog.elem 177)) := by rw [Tryz.len8, Tryz.elem8]; exact Tryz.underlying177
theorem Tryz.sizeRun (w : World) : (sizeOf 151).run Tryz.prog w = .ok 1 w := by
  have h := Tryz.sizeU64
  cases hq : Tryz.prog.info? 151 with
  | none => rw [hq] at h; simp at h
  | some i =>
    rw [hq] at h
    have : i.size = 1 := by simpa using h
    simp [sizeOf, typeInfo, hq, this]
theorem Tryz.slice8_low (g d : Nat) (hd : d < 8) (w : World) : (Instr.sliceAt 177 (.pointer (some ⟨g, 0, none⟩)) (some (.int .i64 d)) none none).run Tryz.prog w = .ok (.slice (some ⟨g, d, none⟩) (8 - d) (8 - d)) w := by
  rw [run_sliceAt_array_l w 177 ⟨g, 0, none⟩ Tryz.array8 .i64 d (by omega) (by rw [Tryz.len8]; omega), Tryz.elem8, Tryz.sizeRun, Tryz.len8]
  simp only [Result.andThen, slicedAt, Int.toNat_natCast, Nat.mul_one]
  rw [if_neg (by omega), show (⟨g, 0, none⟩ : Addr).add d = ⟨g, d, none⟩ by unfold Addr.add; split <;> simp_all]
theorem Tryz.slice8_end (g : Nat) (w : World) : (Instr.sliceAt 177 (.pointer (some ⟨g, 0, none⟩)) (some (.int .i64 8)) none none).run Tryz.prog w = .ok (.slice (some ⟨g, 0, none⟩) 0 0) w := by
  rw [run_sliceAt_array_l w 177 ⟨g, 0, none⟩ Tryz.array8 .i64 8 (by omega) (by rw [Tryz.len8]; omega), Tryz.elem8, Tryz.sizeRun, Tryz.len8]
  rfl
theorem Tryz.slice8_high (g d : Nat) (hd : d ≤ 8) (w : World) : (Instr.sliceAt 177 (.pointer (some ⟨g, 0, none⟩)) none (some (.int .i64 d)) none).run Tryz.prog w = .ok (.slice (some ⟨g, 0, none⟩) d 8) w := by
  rw [run_sliceAt_array_h w 177 ⟨g, 0, none⟩ Tryz.array8 .i64 d (by omega) (by rw [Tryz.len8]; omega), Tryz.elem8, Tryz.sizeRun, Tryz.len8]
  simp only [Result.andThen, slicedAt, Int.toNat_natCast]
  rw [if_neg (by omega), Nat.zero_mul, show (⟨g, 0, none⟩ : Addr).add 0 = ⟨g, 0, none⟩ by rfl]
  rfl
theorem set8_same (w : World) (g j : Nat) (t : TypeId) (hj : j < 8) (hg : w.heap[g]? = some (.cells (cells8 zero8) t (0, 0))) : w.setCell ⟨g, j, none⟩ (.int .u64 0) = w := by
  rw [setCell_eq_setRow w g j (cells8 zero8) t (0, 0) _ hg]
  have e : (cells8 zero8).setIfInBounds j (.int .u64 0) = cells8 zero8 := by
    match j, hj with
    | 0, _ => rfl
    | 1, _ => rfl
    | 2, _ => rfl
    | 3, _ => rfl
    | 4, _ => rfl
    | 5, _ => rfl
    | 6, _ => rfl
    | 7, _ => rfl
  rw [e]
  exact setRow_self w g _ t (0, 0) hg
theorem copy_any {P : Program} {w : World} {ops : Array Oper} {rest : List Oper} {o : Oper} {a : Act} {Q : Exit → Act → World → Prop} (hgd : o.guard = none) (d s : Operand) (dT sT : TypeId)
    (ho : o.op = .call { callee := .builtin .copy, args := #[d, s], argTypes := #[dT, sT] }) (elem : TypeId) (hu : P.underlying dT = some (.slice elem)) (hsz : (P.info? elem).map (·.size) = some 1)
    (dp sp : Option Addr) (dLen dCap sLen sCap : Nat) (hd : a.eval d = .slice dp dLen dCap) (hs : a.eval s = .slice sp sLen sCap)
    (g off : Nat) (cur : List Value) (t : TypeId) (hg : w.heap[g]? = some (.cells cur.toArray t (0, 0))) (cs : List Value) (hn : cs.length = Nat.min sLen dLen)
    (hpos : 0 < cs.length → dp = some ⟨g, off, none⟩ ∧ ∃ ad, sp = some ad ∧ ∀ j v, cs[j]? = some v → w.cell? (ad.add j) = some v)
    (hfit : off + cs.length ≤ cur.length) (h1 : ∀ v ∈ cs, v.oneCell' = true)
    (h : ∀ w', Hid (w'.heap[g]? = some (.cells (splice cur off cs).toArray t (0, 0))) → Hid (∀ k, k ≠ g → w'.heap[k]? = w.heap[k]?) → Hid (w'.os = w.os ∧ w'.tape = w.tape ∧ w'.output = w.output ∧ w'.heap.size = w.heap.size) → wpList P ops Q rest (a.put o.dst (goInt cs.length)) w') :
    wpList P ops Q (o :: rest) a w := by
  by_cases h0 : cs.length = 0
  · obtain rfl : cs = [] := List.eq_nil_of_length_eq_zero h0
    refine wpList_copy_nothing hgd d s dT sT ho elem hu hsz dp sp dLen dCap sLen sCap hd hs (by simpa using hn.symm) ?_
    exact h w (show _ = _ by simpa [splice] using hg) (fun _ _ => rfl) ⟨rfl, rfl, rfl, rfl⟩
  · obtain ⟨rfl, ad, rfl, hsrc⟩ := hpos (by omega)
    refine wpList_copy_own hgd d s dT sT ho elem hu hsz g off dLen dCap ad sLen sCap hd hs cur.toArray t hg cs hn hsrc (by simpa using hfit) h1 ?_
    exact h _ (show _ = _ by simpa [splice] using setRow_heap w g _ _ t _ hg) (fun k hk => setRow_other w g k _ hk) ⟨rfl, rfl, rfl, by simp [World.setRow]⟩
theorem own_form {w : World} {base : Nat} {e : TypeId} {v : Value} {n : Nat} {xs : List Value} (h : w.ownsRow base e 1 v n xs) : ∃ sp cap, v = .slice sp n cap ∧ (0 < n → ∃ g, sp = some ⟨g, 0, none⟩ ∧ base ≤ g ∧ ∀ j u, xs[j]? = some u → w.cell? ⟨g, j, none⟩ = some u) := by
  rcases h.2 with ⟨rfl, rfl⟩ | ⟨g, cap, cur, rfl, h2, h3, h4, h5, h6, h7⟩
  · exact ⟨none, 0, rfl, fun h => absurd h (by omega)⟩
  · refine ⟨_, cap, rfl, fun _ => ⟨g, rfl, h2, fun j u hj => ?_⟩⟩
    rw [cell_of_row w g j cur e (0, 0) h3, ← Array.getElem?_toList]
    rw [← h7, List.getElem?_take] at hj
    split at hj
    · exact hj
    · simp at hj
def Tryz.SixRes (o : Option (List Int)) (e : Ending) : Prop :=
  match o with
  | some ps => e = .returned (.tuple #[.agg (cells8 ps), .nilIface])
  | none => ∃ t v, e = .returned (.tuple #[.agg (cells8 zero8), .iface t v])
set_option maxHeartbeats 4000000 in
set_option maxRecDepth 100000 in
theorem Tryz.readIP6_short (s A B : ByteArray) (w : World) (hs : s.size < 4294967281) (hA : A.size < 4294967281) (hB : B.size < 4294967281) (henv : Tryz.Env w) (hcut : Lib.cut s.data.toList [58, 58] = (A.data.toList, B.data.toList, true)) :
    Calls Tryz.prog 139 #[.string s] w fun e w' => Tryz.SixRes (sixFill true (sixPieces (sixSplit A.data.toList)) (sixLast (sixSplit B.data.toList))) e ∧ Below w.heap.size w w' := by
  have HV : Hid (Tryz.Env w) := henv
  have HB3 : Hid (Below w.heap.size w (((w.alloc (.cells #[.int .u64 0, .int .u64 0, .int .u64 0, .int .u64 0, .int .u64 0, .int .u64 0, .int .u64 0, .int .u64 0] 177)).alloc (.cells #[.int .u64 0, .int .u64 0, .int .u64 0, .int .u64 0, .int .u64 0, .int .u64 0, .int .u64 0, .int .u64 0] 177)).alloc (.cells #[.int .u64 0, .int .u64 0, .int .u64 0, .int .u64 0, .int .u64 0, .int .u64 0, .int .u64 0, .int .u64 0] 177))) := (((Below.refl _ w).alloc (Nat.le_refl _) _).alloc (by simp) _).alloc (by simp; omega) _
  have HV3 : Hid (Tryz.Env (((w.alloc (.cells #[.int .u64 0, .int .u64 0, .int .u64 0, .int .u64 0, .int .u64 0, .int .u64 0, .int .u64 0, .int .u64 0] 177)).alloc (.cells #[.int .u64 0, .int .u64 0, .int .u64 0, .int .u64 0, .int .u64 0, .int .u64 0, .int .u64 0, .int .u64 0] 177)).alloc (.cells #[.int .u64 0, .int .u64 0, .int .u64 0, .int .u64 0, .int .u64 0, .int .u64 0, .int .u64 0, .int .u64 0] 177))) := HV.out.below HB3.out
  obtain ⟨m, hm⟩ := HV3.out.maxLen
  have HCUT : Hid (Calls Tryz.prog 112 #[.string s, .string ⟨#[58, 58]⟩] (((w.alloc (.cells #[.int .u64 0, .int .u64 0, .int .u64 0, .int .u64 0, .int .u64 0, .int .u64 0, .int .u64 0, .int .u64 0] 177)).alloc (.cells #[.int .u64 0, .int .u64 0, .int .u64 0, .int .u64 0, .int .u64 0, .int .u64 0, .int .u64 0, .int .u64 0] 177)).alloc (.cells #[.int .u64 0, .int .u64 0, .int .u64 0, .int .u64 0, .int .u64 0, .int .u64 0, .int .u64 0, .int .u64 0] 177)) fun e w' => e = .returned (.tuple #[.string A, .string B, .bool true]) ∧ ∃ n, w' = (((w.alloc (.cells #[.int .u64 0, .int .u64 0, .int .u64 0, .int .u64 0, .int .u64 0, .int .u64 0, .int .u64 0, .int .u64 0] 177)).alloc (.cells #[.int .u64 0, .int .u64 0, .int .u64 0, .int .u64 0, .int .u64 0, .int .u64 0, .int .u64 0, .int .u64 0] 177)).alloc (.cells #[.int .u64 0, .int .u64 0, .int .u64 0, .int .u64 0, .int .u64 0, .int .u64 0, .int .u64 0, .int .u64 0] 177)).drewN n) := by
    have := Tryz.strings_Cut s ⟨#[58, 58]⟩ m (((w.alloc (.cells #[.int .u64 0, .int .u64 0, .int .u64 0, .int .u64 0, .int .u64 0, .int .u64 0, .int .u64 0, .int .u64 0] 177)).alloc (.cells #[.int .u64 0, .int .u64 0, .int .u64 0, .int .u64 0, .int .u64 0, .int .u64 0, .int .u64 0, .int .u64 0] 177)).alloc (.cells #[.int .u64 0, .int .u64 0, .int .u64 0, .int .u64 0, .int .u64 0, .int .u64 0, .int .u64 0, .int .u64 0] 177)) hs hm
    rw [show (⟨#[58, 58]⟩ : ByteArray).data.toList = [58, 58] from rfl, hcut] at this
    exact this
  have HZ0 : Hid ((((w.alloc (.cells #[.int .u64 0, .int .u64 0, .int .u64 0, .int .u64 0, .int .u64 0, .int .u64 0, .int .u64 0, .int .u64 0] 177)).alloc (.cells #[.int .u64 0, .int .u64 0, .int .u64 0, .int .u64 0, .int .u64 0, .int .u64 0, .int .u64 0, .int .u64 0] 177)).alloc (.cells #[.int .u64 0, .int .u64 0, .int .u64 0, .int .u64 0, .int .u64 0, .int .u64 0, .int .u64 0, .int .u64 0] 177)).heap[w.heap.size]? = some (.cells (cells8 zero8) 177 (0, 0))) := (three_blocks w _ _ _).1
  have HZ1 : Hid ((((w.alloc (.cells #[.int .u64 0, .int .u64 0, .int .u64 0, .int .u64 0, .int .u64 0, .int .u64 0, .int .u64 0, .int .u64 0] 177)).alloc (.cells #[.int .u64 0, .int .u64 0, .int .u64 0, .int .u64 0, .int .u64 0, .int .u64 0, .int .u64 0, .int .u64 0] 177)).alloc (.cells #[.int .u64 0, .int .u64 0, .int .u64 0, .int .u64 0, .int .u64 0, .int .u64 0, .int .u64 0, .int .u64 0] 177)).heap[w.heap.size + 1]? = some (.cells (cells8 zero8) 177 (0, 0))) := (three_blocks w _ _ _).2.1
  have HZ2 : Hid ((((w.alloc (.cells #[.int .u64 0, .int .u64 0, .int .u64 0, .int .u64 0, .int .u64 0, .int .u64 0, .int .u64 0, .int .u64 0] 177)).alloc (.cells #[.int .u64 0, .int .u64 0, .int .u64 0, .int .u64 0, .int .u64 0, .int .u64 0, .int .u64 0, .int .u64 0] 177)).alloc (.cells #[.int .u64 0, .int .u64 0, .int .u64 0, .int .u64 0, .int .u64 0, .int .u64 0, .int .u64 0, .int .u64 0] 177)).heap[w.heap.size + 2]? = some (.cells (cells8 zero8) 177 (0, 0))) := (three_blocks w _ _ _).2.2.1
  have HS3 : Hid ((((w.alloc (.cells #[.int .u64 0, .int .u64 0, .int .u64 0, .int .u64 0, .int .u64 0, .int .u64 0, .int .u64 0, .int .u64 0] 177)).alloc (.cells #[.int .u64 0, .int .u64 0, .int .u64 0, .int .u64 0, .int .u64 0, .int .u64 0, .int .u64 0, .int .u64 0] 177)).alloc (.cells #[.int .u64 0, .int .u64 0, .int .u64 0, .int .u64 0, .int .u64 0, .int .u64 0, .int .u64 0, .int .u64 0] 177)).heap.size = w.heap.size + 3) := (three_blocks w _ _ _).2.2.2
  generalize hfo : sixPieces (sixSplit A.data.toList) = fo
  generalize hgo : sixLast (sixSplit B.data.toList) = go
  have HFO : Hid (sixPieces (sixSplit A.data.toList) = fo) := hfo
  have HGO : Hid (sixLast (sixSplit B.data.toList) = go) := hgo
  clear henv hm hcut hfo hgo
  go_enter Tryz.func139, Tryz.ntmps139
  go_wp2_with fail
  refine HCUT.out.mono ?_
  rintro e w1 ⟨rfl, nd, hw1⟩
  have HB1 : Hid (Below w.heap.size w w1) := by rw [hw1]; exact Go.below_drewN HB3.out nd
  have HV1 : Hid (Tryz.Env w1) := HV.out.below HB1.out
  have HY0 : Hid (w1.heap[w.heap.size]? = some (.cells (cells8 zero8) 177 (0, 0))) := by rw [hw1]; exact HZ0.out
  have HY1 : Hid (w1.heap[w.heap.size + 1]? = some (.cells (cells8 zero8) 177 (0, 0))) := by rw [hw1]; exact HZ1.out
  have HY2 : Hid (w1.heap[w.heap.size + 2]? = some (.cells (cells8 zero8) 177 (0, 0))) := by rw [hw1]; exact HZ2.out
  have hs1 : w1.heap.size = w.heap.size + 3 := by rw [hw1]; exact HS3.out
  have HSZ : Hid (w1.heap.size = w.heap.size + 3) := hs1
  clear hw1 hs1 HZ0 HZ1 HZ2 HS3 HV3 HB3 HCUT
  obtain ⟨m1, hm1⟩ := HV1.out.maxLen
  have HM1 : Hid (w1.cell? ⟨16, 0, none⟩ = some (.int .i64 m1)) := hm1
  clear hm1
  go_wp2_with fail
  refine (Tryz.splitPieces_any A m1 _ hA HM1.out).mono ?_
  rintro e w2 ⟨⟨v2, rfl, hrow2⟩, hb2⟩
  have HR2 : Hid (Tryz.PieceRow w1.heap.size w2 (sixSplit A.data.toList) v2) := hrow2
  have HB2 : Hid (Below w1.heap.size w1 w2) := hb2
  have HV2 : Hid (Tryz.Env w2) := HV1.out.below HB2.out
  clear hrow2 hb2
  go_wp2_with fail
  refine (Tryz.readPieces_any _ _ v2 _ HR2.out HV2.out).mono ?_
  rw [HFO.out]
  cases fo with
  | none =>
    rintro e w3 ⟨⟨te, ve, rfl⟩, hb3⟩
    have HBB : Hid (Below w1.heap.size w1 w3) := HB2.out.trans (hb3.mono (HB2.out.size))
    have HX0 : Hid (w3.heap[w.heap.size]? = some (.cells (cells8 zero8) 177 (0, 0))) := (HBB.out.block _ (by rw [HSZ.out]; omega)).trans HY0.out
    have HX1 : Hid (w3.heap[w.heap.size + 1]? = some (.cells (cells8 zero8) 177 (0, 0))) := (HBB.out.block _ (by rw [HSZ.out]; omega)).trans HY1.out
    clear hb3
    go_wp2_with (first | refine wpList_load_row rfl 177 _ rfl (w.heap.size + 1) rfl 177 (cells8 zero8) (0, 0) _ HX1.out Tryz.underlying177 rfl Tryz.size8 ?_ | refine wpList_store_row rfl 177 _ _ rfl w.heap.size (cells8 zero8) rfl rfl 177 (cells8 zero8) HX0.out Tryz.size8 rfl (cells8_one _) ?_)
    (try simp only [Exit.inBlock, Exit.then])
    have hld := run_loadVar_row (P := Tryz.prog) (w3.setRow w.heap.size (cells8 zero8)) w.heap.size 177 177 (cells8 zero8) (0, 0) _ (setRow_heap w3 w.heap.size (cells8 zero8) (cells8 zero8) 177 (0, 0) HX0.out) Tryz.underlying177 rfl Tryz.size8
    refine bodyPost_ret (v := .tuple #[.agg (cells8 zero8), .iface te ve]) ?_ rfl ⟨⟨_, _, rfl⟩, below_setRow (HB1.out.trans (HBB.out.mono (by rw [HSZ.out]; omega))) (Nat.le_refl _) _⟩
    rw [results_cell_tmp rfl]
    simp [asAddr, Result.andThen, hld]
  | some f =>
    rintro e w3 ⟨⟨v3, rfl, hown⟩, hb3⟩
    have HBB3 : Hid (Below w1.heap.size w1 w3) := HB2.out.trans (hb3.mono (HB2.out.size))
    obtain ⟨sp3, cap3, rfl, hf3⟩ := own_form hown
    have HF3 : Hid (0 < f.length → ∃ g, sp3 = some ⟨g, 0, none⟩ ∧ w2.heap.size ≤ g ∧ ∀ j u, (f.map (Value.int .u64))[j]? = some u → w3.cell? ⟨g, j, none⟩ = some u) := hf3
    have hfl : f.length ≤ 4294967283 := by
      have := sixAcc_len _ _ _ HFO.out
      have h2 := sixSplit_len A.data.toList
      simp at this h2
      omega
    have HV3 : Hid (Tryz.Env w3) := HV1.out.below HBB3.out
    obtain ⟨m3, hm3⟩ := HV3.out.maxLen
    have HM3 : Hid (w3.cell? ⟨16, 0, none⟩ = some (.int .i64 m3)) := hm3
    clear hm3 hb3 hown hf3
    go_wp2_with fail
    refine (Tryz.splitPieces_any B m3 _ hB HM3.out).mono ?_
    rintro e w4 ⟨⟨v4, rfl, hrow4⟩, hb4⟩
    have HR4 : Hid (Tryz.PieceRow w3.heap.size w4 (sixSplit B.data.toList) v4) := hrow4
    have HB4 : Hid (Below w3.heap.size w3 w4) := hb4
    have HV4 : Hid (Tryz.Env w4) := HV3.out.below HB4.out
    clear hrow4 hb4
    go_wp2_with fail
    refine (Tryz.readLast_any _ _ v4 _ HR4.out HV4.out).mono ?_
    rw [HGO.out]
    cases go with
    | none =>
      rintro e w5 ⟨⟨te, ve, rfl⟩, hb5⟩
      have HBB : Hid (Below w1.heap.size w1 w5) := HBB3.out.trans ((HB4.out.trans (hb5.mono HB4.out.size)).mono HBB3.out.size)
      have HX0 : Hid (w5.heap[w.heap.size]? = some (.cells (cells8 zero8) 177 (0, 0))) := (HBB.out.block _ (by rw [HSZ.out]; omega)).trans HY0.out
      have HX1 : Hid (w5.heap[w.heap.size + 1]? = some (.cells (cells8 zero8) 177 (0, 0))) := (HBB.out.block _ (by rw [HSZ.out]; omega)).trans HY1.out
      clear hb5
      go_wp2_with (first | refine wpList_load_row rfl 177 _ rfl (w.heap.size + 1) rfl 177 (cells8 zero8) (0, 0) _ HX1.out Tryz.underlying177 rfl Tryz.size8 ?_ | refine wpList_store_row rfl 177 _ _ rfl w.heap.size (cells8 zero8) rfl rfl 177 (cells8 zero8) HX0.out Tryz.size8 rfl (cells8_one _) ?_)
      (try simp only [Exit.inBlock, Exit.then])
      have hld := run_loadVar_row (P := Tryz.prog) (w5.setRow w.heap.size (cells8 zero8)) w.heap.size 177 177 (cells8 zero8) (0, 0) _ (setRow_heap w5 w.heap.size (cells8 zero8) (cells8 zero8) 177 (0, 0) HX0.out) Tryz.underlying177 rfl Tryz.size8
      refine bodyPost_ret (v := .tuple #[.agg (cells8 zero8), .iface te ve]) ?_ rfl ⟨⟨_, _, rfl⟩, below_setRow (HB1.out.trans (HBB.out.mono (by rw [HSZ.out]; omega))) (Nat.le_refl _) _⟩
      rw [results_cell_tmp rfl]
      simp [asAddr, Result.andThen, hld]
    | some g =>
      rintro e w5 ⟨⟨v5, rfl, hown5⟩, hb5⟩
      have HB35 : Hid (Below w3.heap.size w3 w5) := HB4.out.trans (hb5.mono HB4.out.size)
      have HBB : Hid (Below w1.heap.size w1 w5) := HBB3.out.trans (HB35.out.mono HBB3.out.size)
      obtain ⟨sp5, cap5, rfl, hf5⟩ := own_form hown5
      have HF5 : Hid (0 < g.length → ∃ k, sp5 = some ⟨k, 0, none⟩ ∧ w4.heap.size ≤ k ∧ ∀ j u, (g.map (Value.int .u64))[j]? = some u → w5.cell? ⟨k, j, none⟩ = some u) := hf5
      have HX0 : Hid (w5.heap[w.heap.size]? = some (.cells (cells8 zero8) 177 (0, 0))) := (HBB.out.block _ (by rw [HSZ.out]; omega)).trans HY0.out
      have HX1 : Hid (w5.heap[w.heap.size + 1]? = some (.cells (cells8 zero8) 177 (0, 0))) := (HBB.out.block _ (by rw [HSZ.out]; omega)).trans HY1.out
      have HX2 : Hid (w5.heap[w.heap.size + 1 + 1]? = some (.cells (cells8 zero8) 177 (0, 0))) := (HBB.out.block _ (by rw [HSZ.out]; omega)).trans HY2.out
      have hgl : g.length ≤ 4294967285 := by
        have := sixLast_len _ _ HGO.out
        have h2 := sixSplit_len B.data.toList
        simp at this h2
        omega
      clear hb5 hown5 hf5
      go_wp2_with fail
      refine (Tryz.rightCount_any _ true _).mono ?_
      rintro e w6 ⟨rfl, hw6⟩
      have hw6 := hw6.symm
      subst hw6
      by_cases hcount : decide ((f.length : Int) + (g.length : Int) < 8) = true
      · have hcl : f.length + g.length ≤ 8 := by
          simp at hcount
          omega
        have HCO : Hid (decide ((f.length : Int) + (g.length : Int) < 8) = true) := hcount
        have HFX : Hid (0 < f.length → ∃ k, sp3 = some ⟨k, 0, none⟩ ∧ w.heap.size + 1 + 1 < k ∧ ∀ j u, (f.map (Value.int .u64))[j]? = some u → w5.cell? ⟨k, j, none⟩ = some u) := by
          intro h
          obtain ⟨k, h1, h2, h3⟩ := HF3.out h
          have h4 := HB2.out.size
          rw [HSZ.out] at h4
          refine ⟨k, h1, by omega, fun j u hj => ?_⟩
          have hz := h3 j u hj
          exact (HB35.out.cell (by exact block_lt_of_cell hz)).trans hz
        have HGX : Hid (0 < g.length → ∃ k, sp5 = some ⟨k, 0, none⟩ ∧ w.heap.size + 1 + 1 < k ∧ ∀ j u, (g.map (Value.int .u64))[j]? = some u → w5.cell? ⟨k, j, none⟩ = some u) := by
          intro h
          obtain ⟨k, h1, h2, h3⟩ := HF5.out h
          have h4 := HB2.out.size
          have h5 := HBB3.out.size
          have h6 := HB4.out.size
          rw [HSZ.out] at h4 h5
          exact ⟨k, h1, by omega, h3⟩
        obtain ⟨F, hF⟩ : ∃ F, F = f.map (Value.int .u64) := ⟨_, rfl⟩
        obtain ⟨G, hG⟩ : ∃ G, G = g.map (Value.int .u64) := ⟨_, rfl⟩
        have hFl : F.length = f.length := by rw [hF]; simp
        have hGl : G.length = g.length := by rw [hG]; simp
        have HF1 : Hid (∀ v ∈ F, v.oneCell' = true) := by rw [hF]; exact ints_oneCell .u64 f
        have HG1 : Hid (∀ v ∈ G, v.oneCell' = true) := by rw [hG]; exact ints_oneCell .u64 g
        rw [← hF] at HFX
        rw [← hG] at HGX
        have HFE : Hid (F = f.map (Value.int .u64)) := hF
        have HGE : Hid (G = g.map (Value.int .u64)) := hG
        clear hF hG
        go_wp2_with (refine copy_any rfl _ _ 225 225 rfl 151 Tryz.underlying225 Tryz.sizeU64 (some ⟨w.heap.size + 1 + 1, 0, none⟩) sp3 8 8 f.length cap3 rfl rfl (w.heap.size + 1 + 1) 0 (zero8.map (Value.int .u64)) 177 HX2.out F ?c1 ?c2 ?c3 HF1.out ?_)
        case c1 => rw [hFl]; exact (Nat.min_eq_left (by omega)).symm
        case c2 =>
          intro h
          obtain ⟨k, h1, h2, h3⟩ := HFX.out (by omega)
          refine ⟨_, h1, fun j v hj => ?_⟩
          rw [show (⟨k, 0, none⟩ : Addr).add j = ⟨k, j, none⟩ by unfold Addr.add; split <;> simp_all]
          exact h3 j v hj
        case c3 => rw [hFl]; show 0 + f.length ≤ 8; omega
        intro w6 HA1 HA2 HA3
        obtain ⟨d, hd⟩ : ∃ d : Nat, d + g.length = 8 := ⟨8 - g.length, by omega⟩
        have hdi : (8 : Int) - (g.length : Int) = (d : Int) := by omega
        have HD : Hid (d + g.length = 8) := hd
        have hd8 : d ≤ 8 := by omega
        clear hd
        by_cases hg0 : g.length = 0
        · have hd9 : d = 8 := by have := HD.out; omega
          subst hd9
          have hsl := Tryz.slice8_end (w.heap.size + 1 + 1) w6
          go_wp2_with (refine copy_any rfl _ _ 225 225 rfl 151 Tryz.underlying225 Tryz.sizeU64 (some ⟨w.heap.size + 1 + 1, 0, none⟩) sp5 0 0 g.length cap5 rfl rfl (w.heap.size + 1 + 1) 8 (splice (zero8.map (Value.int .u64)) 0 F) 177 HA1.out G ?d1 ?d2 ?d3 HG1.out ?_)
          case d1 => rw [hGl, hg0]; rfl
          case d2 => intro h; omega
          case d3 => rw [hGl, hg0, length_splice _ _ _ (by rw [hFl]; show 0 + f.length ≤ 8; omega)]; decide
          intro w7 HE1 HE2 HE3
          have HX7 : Hid (w7.heap[w.heap.size]? = some (.cells (cells8 zero8) 177 (0, 0))) := ((HE2.out _ (by omega)).trans (HA2.out _ (by omega))).trans HX0.out
          have HFILL : Hid ((splice (splice (zero8.map (Value.int .u64)) 0 F) 8 G).toArray = cells8 (f ++ (List.replicate (8 - f.length - g.length) 0 ++ g))) := by
            show _ = _
            rw [HFE.out, HGE.out]
            exact splice_fill f g 8 HD.out hcl
          have h8 : (cells8 (f ++ (List.replicate (8 - f.length - g.length) 0 ++ g))).size = 8 := by
            rw [cells8_size]
            simp
            omega
          have HE1' : Hid (w7.heap[w.heap.size + 1 + 1]? = some (.cells (cells8 (f ++ (List.replicate (8 - f.length - g.length) 0 ++ g))) 177 (0, 0))) := by
            have := HE1.out
            rw [HFILL.out] at this
            exact this
          have H8 : Hid ((Tryz.prog.info? 177).map (·.size) = some (cells8 (f ++ (List.replicate (8 - f.length - g.length) 0 ++ g))).size) := by
            show _ = _
            rw [h8]
            exact Tryz.size8
          have H88 : Hid ((cells8 zero8).size = (cells8 (f ++ (List.replicate (8 - f.length - g.length) 0 ++ g))).size) := h8.symm
          clear h8 HE1 HFILL
          obtain ⟨R, hR⟩ : ∃ R, R = f ++ (List.replicate (8 - f.length - g.length) 0 ++ g) := ⟨_, rfl⟩
          rw [← hR] at HE1' H8 H88
          have HRR : Hid (R = f ++ (List.replicate (8 - f.length - g.length) 0 ++ g)) := hR
          clear hR
          go_wp2_with (first | refine wpList_load_row rfl 177 _ rfl (w.heap.size + 1 + 1) rfl 177 (cells8 R) (0, 0) _ HE1'.out Tryz.underlying177 rfl H8.out ?_ | refine wpList_store_row rfl 177 _ _ rfl w.heap.size (cells8 R) rfl rfl 177 (cells8 zero8) HX7.out H8.out H88.out (cells8_one _) ?_)
          (try simp only [Exit.inBlock, Exit.then])
          have hld := run_loadVar_row (P := Tryz.prog) (w7.setRow w.heap.size (cells8 R)) w.heap.size 177 177 (cells8 R) (0, 0) _ (setRow_heap w7 w.heap.size (cells8 zero8) (cells8 R) 177 (0, 0) HX7.out) Tryz.underlying177 rfl H8.out
          have hB7 : Below w.heap.size w w7 := by
            have h1 := HB1.out.trans (HBB.out.mono (by rw [HSZ.out]; omega))
            obtain ⟨a1, a2, a3, a4⟩ := HA3.out
            obtain ⟨b1, b2, b3, b4⟩ := HE3.out
            exact h1.trans ⟨b1.trans a1, b2.trans a2, b3.trans a3, by omega, fun k hk => (HE2.out k (by omega)).trans (HA2.out k (by omega))⟩
          refine bodyPost_ret (v := .tuple #[.agg (cells8 R), .nilIface]) ?_ rfl ⟨?_, below_setRow hB7 (Nat.le_refl _) _⟩
          · rw [results_cell_tmp rfl]
            simp [asAddr, Result.andThen, hld]
          · show Tryz.SixRes (if _ then _ else _) _
            rw [if_pos (by exact HCO.out), HRR.out]
            rfl
        · have hd9 : d < 8 := by have := HD.out; omega
          have hsl := Tryz.slice8_low (w.heap.size + 1 + 1) d hd9 w6
          go_wp2_with (refine copy_any rfl _ _ 225 225 rfl 151 Tryz.underlying225 Tryz.sizeU64 (some ⟨w.heap.size + 1 + 1, d, none⟩) sp5 (8 - d) (8 - d) g.length cap5 rfl rfl (w.heap.size + 1 + 1) d (splice (zero8.map (Value.int .u64)) 0 F) 177 HA1.out G ?d1 ?d2 ?d3 HG1.out ?_)
          case d1 => rw [hGl]; have := HD.out; exact (Nat.min_eq_left (by omega)).symm
          case d2 =>
            intro h
            obtain ⟨k, h1, h2, h3⟩ := HGX.out (by omega)
            refine ⟨_, h1, fun j v hj => ?_⟩
            rw [show (⟨k, 0, none⟩ : Addr).add j = ⟨k, j, none⟩ by unfold Addr.add; split <;> simp_all]
            rw [World.cell?_of_block (w := w5) (HA2.out k (by omega))]
            exact h3 j v hj
          case d3 => rw [hGl, length_splice _ _ _ (by rw [hFl]; show 0 + f.length ≤ 8; omega)]; have := HD.out; show d + g.length ≤ 8; omega
          intro w7 HE1 HE2 HE3
          have HX7 : Hid (w7.heap[w.heap.size]? = some (.cells (cells8 zero8) 177 (0, 0))) := ((HE2.out _ (by omega)).trans (HA2.out _ (by omega))).trans HX0.out
          have HFILL : Hid ((splice (splice (zero8.map (Value.int .u64)) 0 F) d G).toArray = cells8 (f ++ (List.replicate (8 - f.length - g.length) 0 ++ g))) := by
            show _ = _
            rw [HFE.out, HGE.out]
            exact splice_fill f g d HD.out hcl
          have h8 : (cells8 (f ++ (List.replicate (8 - f.length - g.length) 0 ++ g))).size = 8 := by
            rw [cells8_size]
            simp
            omega
          have HE1' : Hid (w7.heap[w.heap.size + 1 + 1]? = some (.cells (cells8 (f ++ (List.replicate (8 - f.length - g.length) 0 ++ g))) 177 (0, 0))) := by
            have := HE1.out
            rw [HFILL.out] at this
            exact this
          have H8 : Hid ((Tryz.prog.info? 177).map (·.size) = some (cells8 (f ++ (List.replicate (8 - f.length - g.length) 0 ++ g))).size) := by
            show _ = _
            rw [h8]
            exact Tryz.size8
          have H88 : Hid ((cells8 zero8).size = (cells8 (f ++ (List.replicate (8 - f.length - g.length) 0 ++ g))).size) := h8.symm
          clear h8 HE1 HFILL
          obtain ⟨R, hR⟩ : ∃ R, R = f ++ (List.replicate (8 - f.length - g.length) 0 ++ g) := ⟨_, rfl⟩
          rw [← hR] at HE1' H8 H88
          have HRR : Hid (R = f ++ (List.replicate (8 - f.length - g.length) 0 ++ g)) := hR
          clear hR
          go_wp2_with (first | refine wpList_load_row rfl 177 _ rfl (w.heap.size + 1 + 1) rfl 177 (cells8 R) (0, 0) _ HE1'.out Tryz.underlying177 rfl H8.out ?_ | refine wpList_store_row rfl 177 _ _ rfl w.heap.size (cells8 R) rfl rfl 177 (cells8 zero8) HX7.out H8.out H88.out (cells8_one _) ?_)
          (try simp only [Exit.inBlock, Exit.then])
          have hld := run_loadVar_row (P := Tryz.prog) (w7.setRow w.heap.size (cells8 R)) w.heap.size 177 177 (cells8 R) (0, 0) _ (setRow_heap w7 w.heap.size (cells8 zero8) (cells8 R) 177 (0, 0) HX7.out) Tryz.underlying177 rfl H8.out
          have hB7 : Below w.heap.size w w7 := by
            have h1 := HB1.out.trans (HBB.out.mono (by rw [HSZ.out]; omega))
            obtain ⟨a1, a2, a3, a4⟩ := HA3.out
            obtain ⟨b1, b2, b3, b4⟩ := HE3.out
            exact h1.trans ⟨b1.trans a1, b2.trans a2, b3.trans a3, by omega, fun k hk => (HE2.out k (by omega)).trans (HA2.out k (by omega))⟩
          refine bodyPost_ret (v := .tuple #[.agg (cells8 R), .nilIface]) ?_ rfl ⟨?_, below_setRow hB7 (Nat.le_refl _) _⟩
          · rw [results_cell_tmp rfl]
            simp [asAddr, Result.andThen, hld]
          · show Tryz.SixRes (if _ then _ else _) _
            rw [if_pos (by exact HCO.out), HRR.out]
            rfl
      · have HCN : Hid (¬ decide ((f.length : Int) + (g.length : Int) < 8) = true) := hcount
        have HVE : Hid (Tryz.Env w5) := HV1.out.below HBB.out
        obtain ⟨te, ve, hce⟩ := HVE.out.eCount
        have hr0 : w5.cell? ⟨w.heap.size + 1, 0, none⟩ = some (.int .u64 0) := by rw [cell_of_row w5 _ _ _ _ _ HX1.out]; rfl
        have hq0 : w5.cell? ⟨w.heap.size, 0, none⟩ = some (.int .u64 0) := by rw [cell_of_row w5 _ _ _ _ _ HX0.out]; rfl
        have hz0 : w5.frozen? ⟨w.heap.size, 0, none⟩ = false := frozen_of_row w5 _ _ _ _ HX0.out
        have hr1 : w5.cell? ⟨w.heap.size + 1, 1, none⟩ = some (.int .u64 0) := by rw [cell_of_row w5 _ _ _ _ _ HX1.out]; rfl
        have hq1 : w5.cell? ⟨w.heap.size, 1, none⟩ = some (.int .u64 0) := by rw [cell_of_row w5 _ _ _ _ _ HX0.out]; rfl
        have hz1 : w5.frozen? ⟨w.heap.size, 1, none⟩ = false := frozen_of_row w5 _ _ _ _ HX0.out
        have hr2 : w5.cell? ⟨w.heap.size + 1, 2, none⟩ = some (.int .u64 0) := by rw [cell_of_row w5 _ _ _ _ _ HX1.out]; rfl
        have hq2 : w5.cell? ⟨w.heap.size, 2, none⟩ = some (.int .u64 0) := by rw [cell_of_row w5 _ _ _ _ _ HX0.out]; rfl
        have hz2 : w5.frozen? ⟨w.heap.size, 2, none⟩ = false := frozen_of_row w5 _ _ _ _ HX0.out
        have hr3 : w5.cell? ⟨w.heap.size + 1, 3, none⟩ = some (.int .u64 0) := by rw [cell_of_row w5 _ _ _ _ _ HX1.out]; rfl
        have hq3 : w5.cell? ⟨w.heap.size, 3, none⟩ = some (.int .u64 0) := by rw [cell_of_row w5 _ _ _ _ _ HX0.out]; rfl
        have hz3 : w5.frozen? ⟨w.heap.size, 3, none⟩ = false := frozen_of_row w5 _ _ _ _ HX0.out
        have hr4 : w5.cell? ⟨w.heap.size + 1, 4, none⟩ = some (.int .u64 0) := by rw [cell_of_row w5 _ _ _ _ _ HX1.out]; rfl
        have hq4 : w5.cell? ⟨w.heap.size, 4, none⟩ = some (.int .u64 0) := by rw [cell_of_row w5 _ _ _ _ _ HX0.out]; rfl
        have hz4 : w5.frozen? ⟨w.heap.size, 4, none⟩ = false := frozen_of_row w5 _ _ _ _ HX0.out
        have hr5 : w5.cell? ⟨w.heap.size + 1, 5, none⟩ = some (.int .u64 0) := by rw [cell_of_row w5 _ _ _ _ _ HX1.out]; rfl
        have hq5 : w5.cell? ⟨w.heap.size, 5, none⟩ = some (.int .u64 0) := by rw [cell_of_row w5 _ _ _ _ _ HX0.out]; rfl
        have hz5 : w5.frozen? ⟨w.heap.size, 5, none⟩ = false := frozen_of_row w5 _ _ _ _ HX0.out
        have hr6 : w5.cell? ⟨w.heap.size + 1, 6, none⟩ = some (.int .u64 0) := by rw [cell_of_row w5 _ _ _ _ _ HX1.out]; rfl
        have hq6 : w5.cell? ⟨w.heap.size, 6, none⟩ = some (.int .u64 0) := by rw [cell_of_row w5 _ _ _ _ _ HX0.out]; rfl
        have hz6 : w5.frozen? ⟨w.heap.size, 6, none⟩ = false := frozen_of_row w5 _ _ _ _ HX0.out
        have hr7 : w5.cell? ⟨w.heap.size + 1, 7, none⟩ = some (.int .u64 0) := by rw [cell_of_row w5 _ _ _ _ _ HX1.out]; rfl
        have hq7 : w5.cell? ⟨w.heap.size, 7, none⟩ = some (.int .u64 0) := by rw [cell_of_row w5 _ _ _ _ _ HX0.out]; rfl
        have hz7 : w5.frozen? ⟨w.heap.size, 7, none⟩ = false := frozen_of_row w5 _ _ _ _ HX0.out
        have HSET : Hid (∀ j, j < 8 → w5.setCell ⟨w.heap.size, j, none⟩ (.int .u64 0) = w5) := fun j hj => set8_same w5 w.heap.size j _ hj HX0.out
        have hne1 : ¬ (14 = w.heap.size) := by have := HV.out.size; omega
        have hne2 : ¬ (w.heap.size = 14) := by have := HV.out.size; omega
        go_wp2
        go_region
        all_goals
          simp only [HSET.out 0 (by omega), HSET.out 1 (by omega), HSET.out 2 (by omega), HSET.out 3 (by omega), HSET.out 4 (by omega), HSET.out 5 (by omega), HSET.out 6 (by omega), HSET.out 7 (by omega)]
          go_wp2
          (try simp only [Exit.inBlock, Exit.then])
          have hld := run_loadVar_row (P := Tryz.prog) w5.drew w.heap.size 177 177 (cells8 zero8) (0, 0) _ HX0.out Tryz.underlying177 rfl Tryz.size8
          refine bodyPost_ret (v := .tuple #[.agg (cells8 zero8), .iface te ve]) ?_ rfl ⟨?_, (HB1.out.trans (HBB.out.mono (by rw [HSZ.out]; omega))).drew⟩
          · rw [results_cell_tmp rfl]
            simp [asAddr, Result.andThen, hld]
          · show Tryz.SixRes (if _ then _ else _) _
            rw [if_neg (by exact HCN.out)]
            exact ⟨_, _, rfl⟩
end Go.Proofs
