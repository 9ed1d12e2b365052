/-
  What each small function of the packages escape and digit does, as a contract: the byte sets, the values of digits, the calls that look at digits.
-/
import Derived.Test.YtkcnageeamappabGreatDoorJShelf
import Derived.Test.YtkcnageeamappabGreatDoorJHPlain
import Derived.WalkKit
import Derived.WalkSpells
import Derived.WalkLawsBesides
import Derived.BigCall
import Derived.BigQuiet
import Derived.Deep.QuietTactic
import Derived.Deep.RegionWith
import Derived.Laws.CopyOwn
import Derived.Laws.Rows
namespace Go.Proofs
open Go.RowKit Go.Moor

def Tryz.Sets (w : World) : Prop := ∀ k, k < 28 → w.cell? ⟨14, k, none⟩ = some (.int .u64 (tabAt k))

set_option maxHeartbeats 800000 in
theorem Tryz.setHolds_any (a b c d : Int) (x : UInt8) (w : World) :
    Calls Tryz.prog 135 #[.agg #[.int .u64 a, .int .u64 b, .int .u64 c, .int .u64 d], .int .u8 x.toNat] w fun e w' => e = .returned (.bool (wordsHold [a, b, c, d] x.toNat)) ∧ Below w.heap.size w w' := by
  have HB : Hid (∀ o : Obj, Below w.heap.size w (w.alloc o)) := fun o => (Below.refl _ _).alloc (Nat.le_refl _) o
  have hlt := x.toNat_lt
  have hq : (x.toNat : Int) / 64 = 0 ∨ (x.toNat : Int) / 64 = 1 ∨ (x.toNat : Int) / 64 = 2 ∨ (x.toNat : Int) / 64 = 3 := by omega
  have hx0 : 0 ≤ (x.toNat : Int) := by omega
  have hx1 : (x.toNat : Int) < 256 := by omega
  obtain ⟨y, hy⟩ : ∃ y : Int, y = x.toNat := ⟨_, rfl⟩
  rw [← hy] at hq hx0 hx1 ⊢
  clear hy hlt
  rcases hq with hq | hq | hq | hq
  · have HW : Hid (wordsHold [a, b, c, d] y = (bits .and .u64 (a / 2 ^ (y % 64).toNat) 1 == 1)) := by show _ = _; unfold wordsHold; rw [hq]; rfl
    go_enter Tryz.func135, Tryz.ntmps135
    go_wp2
    go_ret
    rw [HW.out]
    exact ⟨rfl, HB.out _⟩
  · have HW : Hid (wordsHold [a, b, c, d] y = (bits .and .u64 (b / 2 ^ (y % 64).toNat) 1 == 1)) := by show _ = _; unfold wordsHold; rw [hq]; rfl
    go_enter Tryz.func135, Tryz.ntmps135
    go_wp2
    go_ret
    rw [HW.out]
    exact ⟨rfl, HB.out _⟩
  · have HW : Hid (wordsHold [a, b, c, d] y = (bits .and .u64 (c / 2 ^ (y % 64).toNat) 1 == 1)) := by show _ = _; unfold wordsHold; rw [hq]; rfl
    go_enter Tryz.func135, Tryz.ntmps135
    go_wp2
    go_ret
    rw [HW.out]
    exact ⟨rfl, HB.out _⟩
  · have HW : Hid (wordsHold [a, b, c, d] y = (bits .and .u64 (d / 2 ^ (y % 64).toNat) 1 == 1)) := by show _ = _; unfold wordsHold; rw [hq]; rfl
    go_enter Tryz.func135, Tryz.ntmps135
    go_wp2
    go_ret
    rw [HW.out]
    exact ⟨rfl, HB.out _⟩

theorem cell_alloc_old {w : World} {o : Obj} {p : Go.Addr} {v : Value} (h : w.cell? p = some v) (hz : p.block < w.heap.size) : (w.alloc o).cell? p = some v := by
  rw [((Below.refl w.heap.size w).alloc (Nat.le_refl _) o).cell hz]
  exact h
section
variable {P : Program}
/-- A part of a block that a struct or an array fills, read whole. -/
theorem run_loadVar_piece (w : World) (g off : Nat) (ty : TypeId) (cs : Array Value) (d : TypeDesc) (hc : ∀ (j : Nat) v, cs.toList[j]? = some v → w.cell? ⟨g, off + j, none⟩ = some v)
    (hu : P.underlying ty = some d) (hd : (match d with | .struct _ | .array _ _ => true | _ => false) = true) (hi : (P.info? ty).map (·.size) = some cs.size) :
    (loadVar ty ⟨g, off, none⟩).run P w = .ok (.agg cs) w := by
  have hl : (loadCells ⟨g, off, none⟩ cs.toList.length).run P w = .ok cs.toList.toArray w :=
    run_loadCells_list (P := P) w ⟨g, off, none⟩ cs.toList (fun j v hv => by
      have hadd : (⟨g, off, none⟩ : Go.Addr).add j = ⟨g, off + j, none⟩ := by unfold Go.Addr.add; split <;> simp_all
      rw [hadd]
      exact hc j v hv)
  cases hq : P.info? ty with
  | none => simp [hq] at hi
  | some i =>
    have hs : i.size = cs.size := by simpa [hq] using hi
    have hagg : (isAgg ty).run P w = .ok true w := by
      unfold isAgg
      rw [Sem.run_bind, run_underlying hu w]
      cases d <;> simp_all
    simp only [Array.length_toList, Array.toArray_toList] at hl
    simp [loadVar, Sem.run_bind, hagg, sizeOf, typeInfo, hq, hs, hl]
theorem wp_load_piece {o : Oper} {a : Act} {w : World} {K : Act → World → Prop} {Q : Exit → Act → World → Prop} (ty : TypeId) (x : Operand) (ho : o.op = .load ty x)
    (g off : Nat) (hx : a.eval x = .pointer (some ⟨g, off, none⟩)) (cs : Array Value) (d : TypeDesc) (hc : ∀ (j : Nat) v, cs.toList[j]? = some v → w.cell? ⟨g, off + j, none⟩ = some v)
    (hu : P.underlying ty = some d) (hd : (match d with | .struct _ | .array _ _ => true | _ => false) = true) (hi : (P.info? ty).map (·.size) = some cs.size)
    (h : K (a.put o.dst (.agg cs)) w) : o.wp P a w K Q := by
  unfold Oper.wp execOp
  simp only [ho, hx, Instr.loadAt, Instr.sureAddr, Sem.run_bind, Sem.run_pure, Result.andThen_ok, run_loadVar_piece w g off ty cs d hc hu hd hi]
  exact h
theorem wpList_load_piece {ops : Array Oper} {rest : List Oper} {o : Oper} {a : Act} {w : World} {Q : Exit → Act → World → Prop} (hgd : o.guard = none) (ty : TypeId) (x : Operand) (ho : o.op = .load ty x)
    (g off : Nat) (hx : a.eval x = .pointer (some ⟨g, off, none⟩)) (cs : Array Value) (d : TypeDesc) (hc : ∀ (j : Nat) v, cs.toList[j]? = some v → w.cell? ⟨g, off + j, none⟩ = some v)
    (hu : P.underlying ty = some d) (hd : (match d with | .struct _ | .array _ _ => true | _ => false) = true) (hi : (P.info? ty).map (·.size) = some cs.size)
    (h : wpList P ops Q rest (a.put o.dst (.agg cs)) w) : wpList P ops Q (o :: rest) a w :=
  wpList_plain hgd fun _ hK => wp_load_piece ty x ho g off hx cs d hc hu hd hi (hK _ _ h)
end
theorem Tryz.size4 : (Tryz.prog.info? 172).map (·.size) = some 4 := by kernel_rfl
def zero4 : Array Value := #[.int .u64 0, .int .u64 0, .int .u64 0, .int .u64 0]
def words4 (a b c d : Int) : Array Value := #[.int .u64 a, .int .u64 b, .int .u64 c, .int .u64 d]
theorem words4_one (a b c d : Int) : (words4 a b c d).all (·.oneCell') = true := by simp [words4, Value.oneCell']
set_option maxHeartbeats 800000 in
theorem Tryz.setOf_in (s : Int) (a b c d : Int) (w : World) (h0 : 0 ≤ s) (h1 : s < 7) (hz : 14 < w.heap.size)
    (ha : w.cell? ⟨14, s.toNat * 4, none⟩ = some (.int .u64 a)) (hb : w.cell? ⟨14, s.toNat * 4 + 1, none⟩ = some (.int .u64 b)) (hc : w.cell? ⟨14, s.toNat * 4 + 2, none⟩ = some (.int .u64 c)) (hd : w.cell? ⟨14, s.toNat * 4 + 3, none⟩ = some (.int .u64 d)) :
    Calls Tryz.prog 121 #[.int .i64 s] w fun e w' => e = .returned (.agg #[.int .u64 a, .int .u64 b, .int .u64 c, .int .u64 d]) ∧ Below w.heap.size w w' := by
  obtain ⟨W, hW⟩ : ∃ W, W = w.alloc (.cells zero4 172) := ⟨_, rfl⟩
  have HBW : Hid (Below w.heap.size w W) := by rw [hW]; exact (Below.refl _ _).alloc (Nat.le_refl _) _
  have HC : Hid (∀ (j : Nat) v, (words4 a b c d).toList[j]? = some v → W.cell? ⟨14, s.toNat * 4 + j, none⟩ = some v) := by
    intro j v hj
    rw [hW]
    refine cell_alloc_old ?_ hz
    match j, hj with
    | 0, hj => cases hj; exact ha
    | 1, hj => cases hj; exact hb
    | 2, hj => cases hj; exact hc
    | 3, hj => cases hj; exact hd
    | n + 4, hj => cases hj
  clear ha hb hc hd
  have HN : Hid (W.heap[w.heap.size]? = some (.cells zero4 172 (0, 0))) := by show _ = _; rw [hW]; exact heap_alloc_new w _
  go_enter Tryz.func121, Tryz.ntmps121
  go_wp2_with (first | refine wpList_load_piece rfl 172 _ rfl 14 (s.toNat * 4) rfl (words4 a b c d) _ (by have := HC.out; rw [hW] at this; exact this) Tryz.underlying172 rfl Tryz.size4 ?_ | refine wpList_store_row rfl 172 _ _ rfl w.heap.size (words4 a b c d) rfl rfl 172 zero4 (by have := HN.out; rw [hW] at this; exact this) Tryz.size4 rfl (words4_one a b c d) ?_)
  (try simp only [Exit.inBlock, Exit.then])
  refine bodyPost_ret (v := .agg (words4 a b c d)) ?_ rfl ⟨rfl, ?_⟩
  · exact results_cell_row rfl _ _ w.heap.size 172 (words4 a b c d) (0, 0) _ rfl (setRow_heap _ w.heap.size zero4 (words4 a b c d) 172 (0, 0) (by have := HN.out; rw [hW] at this; exact this)) Tryz.underlying172 rfl Tryz.size4
  · refine below_setRow ?_ (Nat.le_refl _) _
    have := HBW.out
    rw [hW] at this
    exact this

set_option maxHeartbeats 400000 in
theorem Tryz.setOf_low (s : Int) (w : World) (h0 : s < 0) :
    Calls Tryz.prog 121 #[.int .i64 s] w fun e w' => e = .returned (.agg #[.int .u64 0, .int .u64 0, .int .u64 0, .int .u64 0]) ∧ Below w.heap.size w w' := by
  have HB : Hid (∀ o : Obj, Below w.heap.size w (w.alloc o)) := fun o => (Below.refl _ _).alloc (Nat.le_refl _) o
  go_enter Tryz.func121, Tryz.ntmps121
  go_wp2
  refine bodyPost_ret (v := .agg zero4) ?_ rfl ⟨rfl, HB.out _⟩
  exact results_cell_row rfl _ _ w.heap.size 172 zero4 (0, 0) _ rfl (heap_alloc_new w _) Tryz.underlying172 rfl Tryz.size4
set_option maxHeartbeats 400000 in
theorem Tryz.setOf_high (s : Int) (w : World) (h0 : 7 ≤ s) :
    Calls Tryz.prog 121 #[.int .i64 s] w fun e w' => e = .returned (.agg #[.int .u64 0, .int .u64 0, .int .u64 0, .int .u64 0]) ∧ Below w.heap.size w w' := by
  have HB : Hid (∀ o : Obj, Below w.heap.size w (w.alloc o)) := fun o => (Below.refl _ _).alloc (Nat.le_refl _) o
  go_enter Tryz.func121, Tryz.ntmps121
  go_wp2
  refine bodyPost_ret (v := .agg zero4) ?_ rfl ⟨rfl, HB.out _⟩
  exact results_cell_row rfl _ _ w.heap.size 172 zero4 (0, 0) _ rfl (heap_alloc_new w _) Tryz.underlying172 rfl Tryz.size4

/-- A set of four words, as a value. -/
def wordsV (ws : List Int) : Value := .agg #[.int .u64 (ws.getD 0 0), .int .u64 (ws.getD 1 0), .int .u64 (ws.getD 2 0), .int .u64 (ws.getD 3 0)]
theorem Tryz.setOf_any (s : Int) (w : World) (hs : Tryz.Sets w) (hz : 14 < w.heap.size) :
    Calls Tryz.prog 121 #[.int .i64 s] w fun e w' => e = .returned (wordsV (setWs s)) ∧ Below w.heap.size w w' := by
  by_cases h0 : s < 0
  · have e : setWs s = [0, 0, 0, 0] := by unfold setWs; rw [if_neg (by omega)]
    rw [e]
    exact Tryz.setOf_low s w h0
  · by_cases h1 : 7 ≤ s
    · have e : setWs s = [0, 0, 0, 0] := by unfold setWs; rw [if_neg (by omega)]
      rw [e]
      exact Tryz.setOf_high s w h1
    · have e : setWs s = [tabAt (s.toNat * 4), tabAt (s.toNat * 4 + 1), tabAt (s.toNat * 4 + 2), tabAt (s.toNat * 4 + 3)] := by unfold setWs; rw [if_pos (by omega)]
      rw [e]
      exact Tryz.setOf_in s _ _ _ _ w (by omega) (by omega) hz (hs _ (by omega)) (hs _ (by omega)) (hs _ (by omega)) (hs _ (by omega))
set_option maxHeartbeats 400000 in
theorem Tryz.holds_any (s : Int) (c : UInt8) (w : World) (hs : Tryz.Sets w) (hz : 14 < w.heap.size) :
    Calls Tryz.prog 97 #[.int .i64 s, .int .u8 c.toNat] w fun e w' => e = .returned (.bool (holdsB s c.toNat)) ∧ Below w.heap.size w w' := by
  have HS : Hid (Calls Tryz.prog 121 #[.int .i64 s] w fun e w' => e = .returned (wordsV (setWs s)) ∧ Below w.heap.size w w') := Tryz.setOf_any s w hs hz
  have HE : Hid (wordsHold [(setWs s).getD 0 0, (setWs s).getD 1 0, (setWs s).getD 2 0, (setWs s).getD 3 0] c.toNat = holdsB s c.toNat) := by
    show _ = _
    rw [← holds_ws]
    unfold setWs
    split <;> rfl
  unfold wordsV at HS
  generalize (setWs s).getD 0 0 = a0 at *
  generalize (setWs s).getD 1 0 = a1 at *
  generalize (setWs s).getD 2 0 = a2 at *
  generalize (setWs s).getD 3 0 = a3 at *
  clear hs hz
  go_enter Tryz.func97, Tryz.ntmps97
  go_wp2_with fail
  refine HS.out.mono ?_
  rintro e w1 ⟨rfl, b1⟩
  go_wp2_with fail
  refine (Tryz.setHolds_any a0 a1 a2 a3 c w1).mono ?_
  rintro e w2 ⟨rfl, b2⟩
  go_wp2
  go_ret
  rw [HE.out]
  exact ⟨rfl, b1.trans (b2.mono b1.size)⟩
set_option maxHeartbeats 400000 in
theorem Tryz.value_num (b : Int) (w : World) (hb0 : 0 ≤ b) (hb1 : b < 256) (h : 48 ≤ b ∧ b ≤ 57) :
    Calls Tryz.prog 104 #[.int .u8 b] w fun e w' => e = .returned (.int .u64 (hexVal b)) ∧ w' = w := by
  have hv : hexVal b = b - 48 := by unfold hexVal; rw [if_pos h]
  rw [hv]
  obtain ⟨h1, h2⟩ := h
  clear hv
  go_enter Tryz.func104, Tryz.ntmps104
  go_wp2
  go_ret
  exact ⟨rfl, rfl⟩
set_option maxHeartbeats 400000 in
theorem Tryz.value_cap (b : Int) (w : World) (hb0 : 0 ≤ b) (hb1 : b < 256) (h : 65 ≤ b ∧ b ≤ 70) :
    Calls Tryz.prog 104 #[.int .u8 b] w fun e w' => e = .returned (.int .u64 (hexVal b)) ∧ w' = w := by
  have hv : hexVal b = b - 65 + 10 := by unfold hexVal; rw [if_neg (by omega), if_pos h]; omega
  rw [hv]
  obtain ⟨h1, h2⟩ := h
  clear hv
  go_enter Tryz.func104, Tryz.ntmps104
  go_wp2
  go_ret
  exact ⟨rfl, rfl⟩
set_option maxHeartbeats 400000 in
theorem Tryz.value_small (b : Int) (w : World) (hb0 : 0 ≤ b) (hb1 : b < 256) (h : 97 ≤ b ∧ b ≤ 102) :
    Calls Tryz.prog 104 #[.int .u8 b] w fun e w' => e = .returned (.int .u64 (hexVal b)) ∧ w' = w := by
  have hv : hexVal b = b - 97 + 10 := by unfold hexVal; rw [if_neg (by omega), if_neg (by omega), if_pos h]; omega
  rw [hv]
  obtain ⟨h1, h2⟩ := h
  clear hv
  go_enter Tryz.func104, Tryz.ntmps104
  go_wp2
  go_ret
  exact ⟨rfl, rfl⟩
set_option maxHeartbeats 1000000 in
theorem Tryz.value_none (b : Int) (w : World) (hb0 : 0 ≤ b) (hb1 : b < 256) (h1 : ¬ (48 ≤ b ∧ b ≤ 57)) (h2 : ¬ (65 ≤ b ∧ b ≤ 70)) (h3 : ¬ (97 ≤ b ∧ b ≤ 102)) :
    Calls Tryz.prog 104 #[.int .u8 b] w fun e w' => e = .returned (.int .u64 (hexVal b)) ∧ w' = w := by
  have hv : hexVal b = 16 := by unfold hexVal; rw [if_neg h1, if_neg h2, if_neg h3]
  rw [hv]
  clear hv
  have hh : (b < 48) ∨ (57 < b ∧ b < 65) ∨ (70 < b ∧ b < 97) ∨ 102 < b := by omega
  clear h1 h2 h3
  rcases hh with h | ⟨h, h'⟩ | ⟨h, h'⟩ | h <;> go_enter Tryz.func104, Tryz.ntmps104 <;> go_wp2 <;> go_ret <;> exact ⟨rfl, rfl⟩

theorem Tryz.value_any (b : Int) (w : World) (hb0 : 0 ≤ b) (hb1 : b < 256) :
    Calls Tryz.prog 104 #[.int .u8 b] w fun e w' => e = .returned (.int .u64 (hexVal b)) ∧ w' = w := by
  by_cases h1 : 48 ≤ b ∧ b ≤ 57
  · exact Tryz.value_num b w hb0 hb1 h1
  · by_cases h2 : 65 ≤ b ∧ b ≤ 70
    · exact Tryz.value_cap b w hb0 hb1 h2
    · by_cases h3 : 97 ≤ b ∧ b ≤ 102
      · exact Tryz.value_small b w hb0 hb1 h3
      · exact Tryz.value_none b w hb0 hb1 h1 h2 h3
end Go.Proofs
