import Derived.Test.YtkcnageeamappaaGreatDoorXShelf
import Derived.Test.YtkcnageeamappaaGreatDoorXFPlain
import Derived.WalkKit
import Derived.WalkSpells
import Derived.WalkLawsBesides
import Derived.BigCall
import Derived.BigQuiet
import Derived.Deep.QuietTactic
import Derived.Deep.RegionWith
import Derived.Laws.CopyOwn
import Derived.Laws.Rows
namespace Go.Proofs
open Go.RowKit Go.Moor
def Tryz.Sets (w : World) : Prop := ∀ k, k < 28 → w.cell? ⟨13, k, none⟩ = some (.int .u64 (tabAt k))
set_option maxHeartbeats 800000 in
theorem Tryz.setHolds_any (a b c d : Int) (x : UInt8) (w : World) :
    Calls Tryz.prog 168 #[.agg #[.int .u64 a, .int .u64 b, .int .u64 c, .int .u64 d], .int .u8 x.toNat] w fun e w' => e = .returned (.bool (wordsHold [a, b, c, d] x.toNat)) ∧ Below w.heap.size w w' := by
  have HB : Hid (∀ o : Obj, Below w.heap.size w (w.alloc o)) := fun o => (Below.refl _ _).alloc (Nat.le_refl _) o
  have hlt := x.toNat_lt
  have hq : (x.toNat : Int) / 64 = 0 ∨ (x.toNat : Int) / 64 = 1 ∨ (x.toNat : Int) / 64 = 2 ∨ (x.toNat : Int) / 64 = 3 := by omega
  have hx0 : 0 ≤ (x.toNat : Int) := by omega
  have hx1 : (x.toNat : Int) < 256 := by omega
  obtain ⟨y, hy⟩ : ∃ y : Int, y = x.toNat := ⟨_, rfl⟩
  rw [← hy] at hq hx0 hx1 ⊢
  clear hy hlt
  rcases hq with hq | hq | hq | hq
  · have HW : Hid (wordsHold [a, b, c, d] y = (bits .and .u64 (a / 2 ^ (y % 64).toNat) 1 == 1)) := by show _ = _; unfold wordsHold; rw [hq]; rfl
    go_enter Tryz.func168, Tryz.ntmps168
    go_wp2
    go_ret
    rw [HW.out]
    exact ⟨rfl, HB.out _⟩
  · have HW : Hid (wordsHold [a, b, c, d] y = (bits .and .u64 (b / 2 ^ (y % 64).toNat) 1 == 1)) := by show _ = _; unfold wordsHold; rw [hq]; rfl
    go_enter Tryz.func168, Tryz.ntmps168
    go_wp2
    go_ret
    rw [HW.out]
    exact ⟨rfl, HB.out _⟩
  · have HW : Hid (wordsHold [a, b, c, d] y = (bits .and .u64 (c / 2 ^ (y % 64).toNat) 1 == 1)) := by show _ = _; unfold wordsHold; rw [hq]; rfl
    go_enter Tryz.func168, Tryz.ntmps168
    go_wp2
    go_ret
    rw [HW.out]
    exact ⟨rfl, HB.out _⟩
  · have HW : Hid (wordsHold [a, b, c, d] y = (bits .and .u64 (d / 2 ^ (y % 64).toNat) 1 == 1)) := by show _ = _; unfold wordsHold; rw [hq]; rfl
    go_enter Tryz.func168, Tryz.ntmps168
    go_wp2
    go_ret
    rw [HW.out]
    exact ⟨rfl, HB.out _⟩
theorem cell_alloc_old {w : World} {o : Obj} {p : Go.Addr} {v : Value} (h : w.cell? p = some v) (hz : p.block < w.heap.size) : (w.alloc o).cell? p = some v := by
  rw [((Below.refl w.heap.size w).alloc (Nat.le_refl _) o).cell hz]
  exact h
section
variable {P : Program}
theorem run_loadVar_piece (w : World) (g off : Nat) (ty : TypeId) (cs : Array Value) (d : TypeDesc) (hc : ∀ (j : Nat) v, cs.toList[j]? = some v → w.cell? ⟨g, off + j, none⟩ = some v)
    (hu : P.underlying ty = some d) (hd : (match d with | .struct _ | .array _ _ => true | _ => false) = true) (hi : (P.info? ty).map (·.size) = some cs.size) :
    (loadVar ty ⟨g, off, none⟩).run P w = .ok (.agg cs) w := by
  have hl : (loadCells ⟨g, off, none⟩ cs.toList.length).run P w = .ok cs.toList.toArray w :=
    run_loadCells_list (P := P) w ⟨g, off, none⟩ cs.toList (fun j v hv => by
      have hadd : (⟨g, off, none⟩ : Go.Addr).add j = ⟨g, off + j, none⟩ := by unfold Go.Addr.add; split <;> simp_all
      rw [hadd]
      exact hc j v hv)
  cases hq : P.info? ty with
  | none => simp [hq] at hi
  | some i =>
    have hs : i.size = cs.size := by simpa [hq] using hi
    have hagg : (isAgg ty).run P w = .ok true w := by
      unfold isAgg
      rw [Sem.run_bind, run_underlying hu w]
      cases d <;> simp_all
    simp only [Array.length_toList, Array.toArray_toList] at hl
    simp [loadVar, Sem.run_bind, hagg, sizeOf, typeInfo, hq, hs, hl]
theorem wp_load_piece {o : Oper} {a : Act} {w : World} {K : Act → World → Prop} {Q : Exit → Act → World → Prop} (ty : TypeId) (x : Operand) (ho : o.op = .load ty x)
    (g off : Nat) (hx : a.eval x = .pointer (some ⟨g, off, none⟩)) (cs : Array Value) (d : TypeDesc) (hc : ∀ (j : Nat) v, cs.toList[j]? = some v → w.cell? ⟨g, off + j, none⟩ = some v)
    (hu : P.underlying ty = some d) (hd : (match d with | .struct _ | .array _ _ => true | _ => false) = true) (hi : (P.info? ty).map (·.size) = some cs.size)
    (h : K (a.put o.dst (.agg cs)) w) : o.wp P a w K Q := by
  unfold Oper.wp execOp
  simp only [ho, hx, Instr.loadAt, Instr.sureAddr, Sem.run_bind, Sem.run_pure, Result.andThen_ok, run_loadVar_piece w g off ty cs d hc hu hd hi]
  exact h
theorem wpList_load_piece {ops : Array Oper} {rest : List Oper} {o : Oper} {a : Act} {w : World} {Q : Exit → Act → World → Prop} (hgd : o.guard = none) (ty : TypeId) (x : Operand) (ho : o.op = .load ty x)
    (g off : Nat) (hx : a.eval x = .pointer (some ⟨g, off, none⟩)) (cs : Array Value) (d : TypeDesc) (hc : ∀ (j : Nat) v, cs.toList[j]? = some v → w.cell? ⟨g, off + j, none⟩ = some v)
    (hu : P.underlying ty = some d) (hd : (match d with | .struct _ | .array _ _ => true | _ => false) = true) (hi : (P.info? ty).map (·.size) = some cs.size)
    (h : wpList P ops Q rest (a.put o.dst (.agg cs)) w) : wpList P ops Q (o :: rest) a w :=
  wpList_plain hgd fun _ hK => wp_load_piece ty x ho g off hx cs d hc hu hd hi (hK _ _ h)
end
theorem Tryz.size4 : (Tryz.prog.info? 153).map (·.size) = some 4 := by kernel_rfl
def zero4 : Array Value := #[.int .u64 0, .int .u64 0, .int .u64 0, .int .u64 0]
def words4 (a b c d : Int) : Array Value := #[.int .u64 a, .int .u64 b, .int .u64 c, .int .u64 d]
theorem words4_one (a b c d : Int) : (words4 a b c d).all (·.oneCell') = true := by simp [words4, Value.oneCell']
set_option maxHeartbeats 800000 in
theorem Tryz.setOf_in (s : Int) (a b c d : Int) (w : World) (h0 : 0 ≤ s) (h1 : s < 7) (hz : 13 < w.heap.size)
    (ha : w.cell? ⟨13, s.toNat * 4, none⟩ = some (.int .u64 a)) (hb : w.cell? ⟨13, s.toNat * 4 + 1, none⟩ = some (.int .u64 b)) (hc : w.cell? ⟨13, s.toNat * 4 + 2, none⟩ = some (.int .u64 c)) (hd : w.cell? ⟨13, s.toNat * 4 + 3, none⟩ = some (.int .u64 d)) :
    Calls Tryz.prog 108 #[.int .i64 s] w fun e w' => e = .returned (.agg #[.int .u64 a, .int .u64 b, .int .u64 c, .int .u64 d]) ∧ Below w.heap.size w w' := by
  obtain ⟨W, hW⟩ : ∃ W, W = w.alloc (.cells zero4 153) := ⟨_, rfl⟩
  have HBW : Hid (Below w.heap.size w W) := by rw [hW]; exact (Below.refl _ _).alloc (Nat.le_refl _) _
  have HC : Hid (∀ (j : Nat) v, (words4 a b c d).toList[j]? = some v → W.cell? ⟨13, s.toNat * 4 + j, none⟩ = some v) := by
    intro j v hj
    rw [hW]
    refine cell_alloc_old ?_ hz
    match j, hj with
    | 0, hj => cases hj; exact ha
    | 1, hj => cases hj; exact hb
    | 2, hj => cases hj; exact hc
    | 3, hj => cases hj; exact hd
    | n + 4, hj => cases hj
  clear ha hb hc hd
  have HN : Hid (W.heap[w.heap.size]? = some (.cells zero4 153 (0, 0))) := by show _ = _; rw [hW]; exact heap_alloc_new w _
  go_enter Tryz.func108, Tryz.ntmps108
  go_wp2_with (first | refine wpList_load_piece rfl 153 _ rfl 13 (s.toNat * 4) rfl (words4 a b c d) _ (by have := HC.out; rw [hW] at this; exact this) Tryz.underlying153 rfl Tryz.size4 ?_ | refine wpList_store_row rfl 153 _ _ rfl w.heap.size (words4 a b c d) rfl rfl 153 zero4 (by have := HN.out; rw [hW] at this; exact this) Tryz.size4 rfl (words4_one a b c d) ?_)
  (try simp only [Exit.inBlock, Exit.then])
  refine bodyPost_ret (v := .agg (words4 a b c d)) ?_ rfl ⟨rfl, ?_⟩
  · exact results_cell_row rfl _ _ w.heap.size 153 (words4 a b c d) (0, 0) _ rfl (setRow_heap _ w.heap.size zero4 (words4 a b c d) 153 (0, 0) (by have := HN.out; rw [hW] at this; exact this)) Tryz.underlying153 rfl Tryz.size4
  · refine below_setRow ?_ (Nat.le_refl _) _
    have := HBW.out
    rw [hW] at this
    exact this
set_option maxHeartbeats 400000 in
theorem Tryz.setOf_low (s : Int) (w : World) (h0 : s < 0) :
    Calls Tryz.prog 108 #[.int .i64 s] w fun e w' => e = .returned (.agg #[.int .u64 0, .int .u64 0, .int .u64 0, .int .u64 0]) ∧ Below w.heap.size w w' := by
  have HB : Hid (∀ o : Obj, Below w.heap.size w (w.alloc o)) := fun o => (Below.refl _ _).alloc (Nat.le_refl _) o
  go_enter Tryz.func108, Tryz.ntmps108
  go_wp2
  refine bodyPost_ret (v := .agg zero4) ?_ rfl ⟨rfl, HB.out _⟩
  exact results_cell_row rfl _ _ w.heap.size 153 zero4 (0, 0) _ rfl (heap_alloc_new w _) Tryz.underlying153 rfl Tryz.size4
set_option maxHeartbeats 400000 in
theorem Tryz.setOf_high (s : Int) (w : World) (h0 : 7 ≤ s) :
    Calls Tryz.prog 108 #[.int .i64 s] w fun e w' => e = .returned (.agg #[.int .u64 0, .int .u64 0, .int .u64 0, .int .u64 0]) ∧ Below w.heap.size w w' := by
  have HB : Hid (∀ o : Obj, Below w.heap.size w (w.alloc o)) := fun o => (Below.refl _ _).alloc (Nat.le_refl _) o
  go_enter Tryz.func108, Tryz.ntmps108
  go_wp2
  refine bodyPost_ret (v := .agg zero4) ?_ rfl ⟨rfl, HB.out _⟩
  exact results_cell_row rfl _ _ w.heap.size 153 zero4 (0, 0) _ rfl (heap_alloc_new w _) Tryz.underlying153 rfl Tryz.size4
def wordsV (ws : List Int) : Value := .agg #[.int .u64 (ws.getD 0 0), .int .u64 (ws.getD 1 0), .int .u64 (ws.getD 2 0), .int .u64 (ws.getD 3 0)]
theorem Tryz.setOf_any (s : Int) (w : World) (hs : Tryz.Sets w) (hz : 13 < w.heap.size) :
    Calls Tryz.prog 108 #[.int .i64 s] w fun e w' => e = .returned (wordsV (setWs s)) ∧ Below w.heap.size w w' := by
  by_cases h0 : s < 0
  · have e : setWs s = [0, 0, 0, 0] := by unfold setWs; rw [if_neg (by omega)]
    rw [e]
    exact Tryz.setOf_low s w h0
  · by_cases h1 : 7 ≤ s
    · have e : setWs s = [0, 0, 0, 0] := by unfold setWs; rw [if_neg (by omega)]
      rw [e]
      exact Tryz.setOf_high s w h1
    · have e : setWs s = [tabAt (s.toNat * 4), tabAt (s.toNat * 4 + 1), tabAt (s.toNat * 4 + 2), tabAt (s.toNat * 4 + 3)] := by unfold setWs; rw [if_pos (by omega)]
      rw [e]
      exact Tryz.setOf_in s _ _ _ _ w (by omega) (by omega) hz (hs _ (by omega)) (hs _ (by omega)) (hs _ (by omega)) (hs _ (by omega))
set_option maxHeartbeats 400000 in
theorem Tryz.holds_any (s : Int) (c : UInt8) (w : World) (hs : Tryz.Sets w) (hz : 13 < w.heap.size) :
    Calls Tryz.prog 142 #[.int .i64 s, .int .u8 c.toNat] w fun e w' => e = .returned (.bool (holdsB s c.toNat)) ∧ Below w.heap.size w w' := by
  have HS : Hid (Calls Tryz.prog 108 #[.int .i64 s] w fun e w' => e = .returned (wordsV (setWs s)) ∧ Below w.heap.size w w') := Tryz.setOf_any s w hs hz
  have HE : Hid (wordsHold [(setWs s).getD 0 0, (setWs s).getD 1 0, (setWs s).getD 2 0, (setWs s).getD 3 0] c.toNat = holdsB s c.toNat) := by
    show _ = _
    rw [← holds_ws]
    unfold setWs
    split <;> rfl
  unfold wordsV at HS
  generalize (setWs s).getD 0 0 = a0 at *
  generalize (setWs s).getD 1 0 = a1 at *
  generalize (setWs s).getD 2 0 = a2 at *
  generalize (setWs s).getD 3 0 = a3 at *
  clear hs hz
  go_enter Tryz.func142, Tryz.ntmps142
  go_wp2_with fail
  refine HS.out.mono ?_
  rintro e w1 ⟨rfl, b1⟩
  go_wp2_with fail
  refine (Tryz.setHolds_any a0 a1 a2 a3 c w1).mono ?_
  rintro e w2 ⟨rfl, b2⟩
  go_wp2
  go_ret
  rw [HE.out]
  exact ⟨rfl, b1.trans (b2.mono b1.size)⟩
set_option maxHeartbeats 400000 in
theorem Tryz.value_num (b : Int) (w : World) (hb0 : 0 ≤ b) (hb1 : b < 256) (h : 48 ≤ b ∧ b ≤ 57) :
    Calls Tryz.prog 115 #[.int .u8 b] w fun e w' => e = .returned (.int .u64 (hexVal b)) ∧ w' = w := by
  have hv : hexVal b = b - 48 := by unfold hexVal; rw [if_pos h]
  rw [hv]
  obtain ⟨h1, h2⟩ := h
  clear hv
  go_enter Tryz.func115, Tryz.ntmps115
  go_wp2
  go_ret
  exact ⟨rfl, rfl⟩
set_option maxHeartbeats 400000 in
theorem Tryz.value_cap (b : Int) (w : World) (hb0 : 0 ≤ b) (hb1 : b < 256) (h : 65 ≤ b ∧ b ≤ 70) :
    Calls Tryz.prog 115 #[.int .u8 b] w fun e w' => e = .returned (.int .u64 (hexVal b)) ∧ w' = w := by
  have hv : hexVal b = b - 65 + 10 := by unfold hexVal; rw [if_neg (by omega), if_pos h]; omega
  rw [hv]
  obtain ⟨h1, h2⟩ := h
  clear hv
  go_enter Tryz.func115, Tryz.ntmps115
  go_wp2
  go_ret
  exact ⟨rfl, rfl⟩
set_option maxHeartbeats 400000 in
theorem Tryz.value_small (b : Int) (w : World) (hb0 : 0 ≤ b) (hb1 : b < 256) (h : 97 ≤ b ∧ b ≤ 102) :
    Calls Tryz.prog 115 #[.int .u8 b] w fun e w' => e = .returned (.int .u64 (hexVal b)) ∧ w' = w := by
  have hv : hexVal b = b - 97 + 10 := by unfold hexVal; rw [if_neg (by omega), if_neg (by omega), if_pos h]; omega
  rw [hv]
  obtain ⟨h1, h2⟩ := h
  clear hv
  go_enter Tryz.func115, Tryz.ntmps115
  go_wp2
  go_ret
  exact ⟨rfl, rfl⟩
set_option maxHeartbeats 1000000 in
theorem Tryz.value_none (b : Int) (w : World) (hb0 : 0 ≤ b) (hb1 : b < 256) (h1 : ¬ (48 ≤ b ∧ b ≤ 57)) (h2 : ¬ (65 ≤ b ∧ b ≤ 70)) (h3 : ¬ (97 ≤ b ∧ b ≤ 102)) :
    Calls Tryz.prog 115 #[.int .u8 b] w fun e w' => e = .returned (.int .u64 (hexVal b)) ∧ w' = w := by
  have hv : hexVal b = 16 := by unfold hexVal; rw [if_neg h1, if_neg h2, if_neg h3]
  rw [hv]
  clear hv
  have hh : (b < 48) ∨ (57 < b ∧ b < 65) ∨ (70 < b ∧ b < 97) ∨ 102 < b := by omega
  clear h1 h2 h3
  rcases hh with h | ⟨h, h'⟩ | ⟨h, h'⟩ | h <;> go_enter Tryz.func115, Tryz.ntmps115 <;> go_wp2 <;> go_ret <;> exact ⟨rfl, rfl⟩
theorem Tryz.value_any (b : Int) (w : World) (hb0 : 0 ≤ b) (hb1 : b < 256) :
    Calls Tryz.prog 115 #[.int .u8 b] w fun e w' => e = .returned (.int .u64 (hexVal b)) ∧ w' = w := by
  by_cases h1 : 48 ≤ b ∧ b ≤ 57
  · exact Tryz.value_num b w hb0 hb1 h1
  · by_cases h2 : 65 ≤ b ∧ b ≤ 70
    · exact Tryz.value_cap b w hb0 hb1 h2
    · by_cases h3 : 97 ≤ b ∧ b ≤ 102
      · exact Tryz.value_small b w hb0 hb1 h3
      · exact Tryz.value_none b w hb0 hb1 h1 h2 h3
end Go.Proofs
namespace Go.Proofs
open Go.RowKit Go.Moor
def Tryz.allB (base : Int) (l : List UInt8) : Bool := l.all fun c => decide (hexVal c.toNat < base)
theorem Tryz.all_drop (base : Int) (s : ByteArray) (k : Nat) (h : k < s.size) : Tryz.allB base (s.data.toList.drop k) = (decide (hexVal s[k].toNat < base) && Tryz.allB base (s.data.toList.drop (k + 1))) := by
  unfold Tryz.allB
  rw [List.drop_eq_getElem_cons (by simpa using h), List.all_cons]
  rfl
set_option maxHeartbeats 400000 in
theorem Tryz.all_any (s : ByteArray) (base : Int) (w : World) (hs : s.size ≤ maxLen) :
    Calls Tryz.prog 170 #[.string s, .int .u64 base] w fun e w' => e = .returned (.bool (Tryz.allB base s.data.toList)) ∧ w' = w := by
  unfold maxLen at hs
  have HA : Hid (Tryz.allB base s.data.toList = Tryz.allB base (s.data.toList.drop 0)) := by simp [Hid]
  rw [HA.out]
  generalize hgo : Tryz.allB base (s.data.toList.drop 0) = goal
  have HG : Hid (Tryz.allB base (s.data.toList.drop 0) = goal) := hgo
  clear hgo HA
  go_enter Tryz.func170, Tryz.ntmps170
  go_wp2
  go_loop [5] (fun i => ∃ k : Nat, k ≤ s.size ∧ i = .int .i64 k ∧ Tryz.allB base (s.data.toList.drop k) = goal) (fun i => s.size - (intOf i).toNat)
  case atStart => exact ⟨0, Nat.zero_le _, rfl, HG.out⟩
  case round =>
    obtain ⟨k, hk, rfl, hrest⟩ := hrel
    have HR : Hid (Tryz.allB base (s.data.toList.drop k) = goal) := hrest
    clear hrest
    by_cases hlt : k < s.size
    · have hc := s[k].toNat_lt
      by_cases hd : hexVal s[k].toNat < base
      · go_wp2_with (go_at_call 115; refine (Tryz.value_any _ _ (by omega) (by omega)).mono ?_; rintro e w' ⟨rfl, rfl⟩)
        go_round
        case rel => exact ⟨k + 1, by omega, by go_num, by have := HR.out; rw [Tryz.all_drop base s k hlt, decide_eq_true hd, Bool.true_and] at this; exact this⟩
        case measure => simp [intOf]; omega
      · go_wp2_with (go_at_call 115; refine (Tryz.value_any _ _ (by omega) (by omega)).mono ?_; rintro e w' ⟨rfl, rfl⟩)
        go_ret
        refine ⟨?_, rfl⟩
        have := HR.out
        rw [Tryz.all_drop base s k hlt, decide_eq_false (by omega), Bool.false_and] at this
        rw [← this]; rfl
    · go_wp2
      go_ret
      refine ⟨?_, rfl⟩
      have := HR.out
      rw [List.drop_eq_nil_of_le (by simp; omega)] at this
      rw [← this]; rfl
theorem Tryz.take2 (s : ByteArray) (h : 2 ≤ s.size) : ∃ a b r, s.data.toList = a :: b :: r ∧ (s.extract 0 2).data.toList = [a, b] ∧ s[0] = a ∧ s[1] = b ∧ (s.extract 2 s.size).data.toList = r := by
  match hl : s.data.toList with
  | [] => have : s.data.toList.length = s.size := by simp
          rw [hl] at this; simp at this; omega
  | [a] => have : s.data.toList.length = s.size := by simp
           rw [hl] at this; simp at this; omega
  | a :: b :: r =>
    refine ⟨a, b, r, rfl, ?_, ?_, ?_, ?_⟩
    · rw [Lib.extract_data, hl]; rfl
    · have : s[0] = s.data.toList[0]'(by simp; omega) := rfl
      rw [this]; simp [hl]
    · have : s[1] = s.data.toList[1]'(by simp; omega) := rfl
      rw [this]; simp [hl]
    · rw [Lib.extract_data, hl]
      have : s.data.toList.length = s.size := by simp
      rw [hl] at this
      simp at this
      rw [← this]
      simp
set_option maxHeartbeats 400000 in
theorem Tryz.two_any (s : ByteArray) (w : World) (hs : s.size ≤ maxLen) :
    Calls Tryz.prog 113 #[.string s] w fun e w' => e = .returned (.bool (twoHex s.data.toList)) ∧ w' = w := by
  by_cases h2 : 2 ≤ s.size
  · obtain ⟨a, b, r, e1, _, _, _, _⟩ := Tryz.take2 s h2
    have HT : Hid (twoHex s.data.toList = Tryz.allB 16 (List.take 2 s.data.toList)) := by rw [e1]; simp [twoHex, Tryz.allB, Hid]
    rw [HT.out]
    clear e1 HT
    have hz : (s.extract 0 2).size ≤ maxLen := by rw [ByteArray.size_extract]; unfold maxLen; omega
    unfold maxLen at hs
    go_enter Tryz.func113, Tryz.ntmps113
    go_wp2_with (go_at_call 170; refine (Tryz.all_any _ 16 _ hz).mono ?_; rintro e w' ⟨rfl, rfl⟩)
    go_ret
    exact ⟨rfl, rfl⟩
  · have ht : twoHex s.data.toList = false := by
      match hl : s.data.toList with
      | [] => rfl
      | [a] => rfl
      | a :: b :: r => have : s.data.toList.length = s.size := by simp
                       rw [hl] at this; simp at this; omega
    rw [ht]
    unfold maxLen at hs
    clear ht
    go_enter Tryz.func113, Tryz.ntmps113
    go_wp2
    go_ret
    exact ⟨rfl, rfl⟩
end Go.Proofs
namespace Go.Proofs
open Go.RowKit Go.Moor
theorem Tryz.sets_below {w w' : World} (h : Tryz.Sets w) (hb : Below w.heap.size w w') (hz : 13 < w.heap.size) : Tryz.Sets w' := by
  intro k hk
  rw [hb.cell (p := ⟨13, k, none⟩) hz]
  exact h k hk
def Tryz.caps : ByteArray := ⟨#[48, 49, 50, 51, 52, 53, 54, 55, 56, 57, 65, 66, 67, 68, 69, 70]⟩
theorem Tryz.cap_fin : ∀ n : Fin 16, Tryz.caps.data.toList.getD n.val 0 = hexCap n.val := by decide +kernel
theorem Tryz.cap_at (n : Nat) (h : n < Tryz.caps.size) : Tryz.caps[n] = hexCap n := by
  have h16 : n < 16 := h
  have := Tryz.cap_fin ⟨n, h16⟩
  show Tryz.caps.data.toList[n]'h = _
  rw [← this, List.getD_eq_getElem?_getD, List.getElem?_eq_getElem (by exact h)]
  rfl
theorem Tryz.cells_one (c : UInt8) : Lib.byteCells [c] = [.int .u8 c.toNat] := rfl
theorem isBuilderF_below {T e : TypeId} {B b : Nat} {bs : List Value} {w w' : World} (h : Lib.IsBuilderF T e B b bs w) (hb : Below w.heap.size w w') : Lib.IsBuilderF T e B b bs w' := by
  have key : ∀ p, Lib.BuilderAtF T e B b p bs w → Lib.BuilderAtF T e B b p bs w' := by
    rintro p ⟨hB, v, h1, h2, h3⟩
    refine ⟨hB, v, ?_, ⟨h2.1, ?_⟩, h3⟩
    · rw [hb.block b (Array.getElem?_eq_some_iff.1 h1).1]
      exact h1
    · rcases h2.2 with h | ⟨g, cap, cur, fz, e1, e2, e3, e4⟩
      · exact Or.inl h
      · refine Or.inr ⟨g, cap, cur, fz, e1, e2, ?_, e4⟩
        rw [hb.block g (Array.getElem?_eq_some_iff.1 e3).1]
        exact e3
  exact h.elim (fun x => Or.inl (key _ x)) (fun x => Or.inr (key _ x))
set_option maxHeartbeats 1000000 in
theorem Tryz.setEscape_any (s : ByteArray) (ws : List Int) (hws : ∃ a b c d, ws = [a, b, c, d]) (w : World) (hs : s.size ≤ 35184372088832) :
    Calls Tryz.prog 109 #[wordsV ws, .string s] w fun e w' => e = .returned (.string ⟨(escW ws s.data.toList).toArray⟩) ∧ Below w.heap.size w w' := by
  obtain ⟨a0, a1, a2, a3, hw⟩ := hws
  have HW : Hid (ws = [a0, a1, a2, a3]) := hw
  have hv : wordsV ws = .agg #[.int .u64 a0, .int .u64 a1, .int .u64 a2, .int .u64 a3] := by rw [hw]; rfl
  rw [hv]
  clear hv hw
  obtain ⟨W, hW⟩ : ∃ W, W = w.alloc (.cells #[.int .u64 a0, .int .u64 a1, .int .u64 a2, .int .u64 a3] 153) := ⟨_, rfl⟩
  have HBW : Hid (Below w.heap.size w W) := by rw [hW]; exact (Below.refl _ _).alloc (Nat.le_refl _) _
  have hWz : W.heap.size = w.heap.size + 1 := by rw [hW]; simp
  have HSR : Hid (W.heap[w.heap.size]? = some (.cells (words4 a0 a1 a2 a3) 153 (0, 0))) := by show _ = _; rw [hW]; exact heap_alloc_new w _
  go_enter Tryz.func109, Tryz.ntmps109
  go_wp2
  rw [← hW]
  have HW0 : Hid (Lib.IsBuilderF 142 5 (w.heap.size + 1) (w.heap.size + 1) (Lib.byteCells []) (W.alloc (.cells #[.pointer none, .slice none 0 0] 142))) := by
    have h := Lib.IsBuilderF.of (Lib.fresh_isBuilder 142 5 W)
    rw [hWz] at h
    exact h
  have HBA : Hid (Below (w.heap.size + 1) W (W.alloc (.cells #[.pointer none, .slice none 0 0] 142))) := (Below.refl _ _).alloc (by omega) _
  clear hW
  go_loopw [6] (fun i wr => ∃ k : Nat, k ≤ s.size ∧ i = .int .i64 k ∧ Lib.IsBuilderF 142 5 (w.heap.size + 1) (w.heap.size + 1) (Lib.byteCells (escW ws (s.data.toList.take k))) wr ∧ Below (w.heap.size + 1) W wr ∧ w.heap.size + 1 < wr.heap.size) (fun i _ => s.size - (intOf i).toNat)
  case atStart =>
    exact ⟨0, Nat.zero_le _, rfl, HW0.out, HBA.out, by simp [hWz]⟩
  case round =>
    obtain ⟨k, hk, rfl, hI, hbw, hsz⟩ := hrel
    have hlen := escW_len ws (s.data.toList.take k)
    have hl : (s.data.toList.take k).length ≤ k := List.length_take_le _ _
    have HL : Hid ((escW ws (s.data.toList.take k)).length ≤ 3 * k) := by show _ ≤ _; omega
    clear hlen hl
    by_cases hlt : k < s.size
    · have HT : Hid (escW ws (s.data.toList.take (k + 1)) = escW ws (s.data.toList.take k) ++ escW1 ws s[k]) := by show _ = _; rw [take_snoc s k hlt, escW_snoc]
      have hc := s[k].toNat_lt
      by_cases hh : wordsHold ws s[k].toNat = true
      · have HH : Hid (∀ W, Calls Tryz.prog 168 #[.agg #[.int .u64 a0, .int .u64 a1, .int .u64 a2, .int .u64 a3], .int .u8 s[k].toNat] W fun e w' => e = .returned (.bool true) ∧ Below W.heap.size W w') := by
          intro W
          have := Tryz.setHolds_any a0 a1 a2 a3 s[k] W
          rw [← HW.out, hh] at this
          exact this
        have HSW : Hid (wr.heap[w.heap.size]? = some (.cells (words4 a0 a1 a2 a3) 153 (0, 0))) := (hbw.block w.heap.size (by omega)).trans HSR.out
        go_wp2_with (refine wpList_load_row rfl 153 _ rfl w.heap.size rfl 153 (words4 a0 a1 a2 a3) (0, 0) _ HSW.out Tryz.underlying153 rfl Tryz.size4 ?_)
        refine (HH.out wr).mono ?_
        rintro e W0 ⟨rfl, b0⟩
        have hI0 := isBuilderF_below hI b0
        have hb0 := hbw.trans (b0.mono (by omega))
        have hz0 : w.heap.size + 1 < W0.heap.size := Nat.lt_of_lt_of_le hsz b0.size
        clear hI hbw hsz b0
        go_wp2_with fail
        refine (Tryz.Builder_WriteByte_k (w.heap.size + 1) (w.heap.size + 1) _ _ _ hI0 (by rw [Lib.byteCells_length]; have := HL.out; omega) (by omega)).mono ?_
        rintro e W1 ⟨rfl, h1, b1, _⟩
        have hI1 : Lib.IsBuilderF 142 5 (w.heap.size + 1) (w.heap.size + 1) (Lib.byteCells (escW ws (s.data.toList.take k) ++ [37])) W1 := by rw [Lib.byteCells_append]; exact Or.inr h1
        have hb1 := hb0.trans b1
        have hz1 : w.heap.size + 1 < W1.heap.size := Nat.lt_of_lt_of_le hz0 b1.size
        clear h1 b1
        go_wp2_with fail
        refine (Tryz.Builder_WriteByte_k (w.heap.size + 1) (w.heap.size + 1) _ _ _ hI1 (by rw [Lib.byteCells_length]; have := HL.out; simp; omega) (by omega)).mono ?_
        rintro e W2 ⟨rfl, h2, b2, _⟩
        have hI2 : Lib.IsBuilderF 142 5 (w.heap.size + 1) (w.heap.size + 1) (Lib.byteCells (escW ws (s.data.toList.take k) ++ [37, hexCap (s[k].toNat / 16)])) W2 := by
          rw [show escW ws (s.data.toList.take k) ++ [37, hexCap (s[k].toNat / 16)] = (escW ws (s.data.toList.take k) ++ [37]) ++ [hexCap (s[k].toNat / 16)] by simp, Lib.byteCells_append, Tryz.cells_one, ← Tryz.cap_at (s[k].toNat / 16) (by show _ < 16; omega)]; exact Or.inr h2
        have hb2 := hb1.trans b2
        have hz2 : w.heap.size + 1 < W2.heap.size := Nat.lt_of_lt_of_le hz1 b2.size
        clear h2 b2 hI1 hb1 hz1
        go_wp2_with fail
        refine (Tryz.Builder_WriteByte_k (w.heap.size + 1) (w.heap.size + 1) _ _ _ hI2 (by rw [Lib.byteCells_length]; have := HL.out; simp; omega) (by omega)).mono ?_
        rintro e W3 ⟨rfl, h3, b3, _⟩
        have hI3 : Lib.IsBuilderF 142 5 (w.heap.size + 1) (w.heap.size + 1) (Lib.byteCells (escW ws (s.data.toList.take (k + 1)))) W3 := by
          rw [HT.out, show escW1 ws s[k] = [37, hexCap (s[k].toNat / 16)] ++ [hexCap (s[k].toNat % 16)] by simp [escW1, hh], ← List.append_assoc, Lib.byteCells_append, Tryz.cells_one, ← Tryz.cap_at (s[k].toNat % 16) (by show _ < 16; omega)]; exact Or.inr h3
        have hb3 := hb2.trans b3
        have hz3 : w.heap.size + 1 < W3.heap.size := Nat.lt_of_lt_of_le hz2 b3.size
        clear h3 b3 hI2 hb2 hz2
        go_wp2
        go_roundw
        case rel => exact ⟨k + 1, by omega, by go_num, hI3, hb3, hz3⟩
        case measure => simp [intOf]; omega
      · have hh' : wordsHold ws s[k].toNat = false := Bool.eq_false_iff.2 hh
        clear hh
        have HH : Hid (∀ W, Calls Tryz.prog 168 #[.agg #[.int .u64 a0, .int .u64 a1, .int .u64 a2, .int .u64 a3], .int .u8 s[k].toNat] W fun e w' => e = .returned (.bool false) ∧ Below W.heap.size W w') := by
          intro W
          have := Tryz.setHolds_any a0 a1 a2 a3 s[k] W
          rw [← HW.out, hh'] at this
          exact this
        have HSW : Hid (wr.heap[w.heap.size]? = some (.cells (words4 a0 a1 a2 a3) 153 (0, 0))) := (hbw.block w.heap.size (by omega)).trans HSR.out
        go_wp2_with (refine wpList_load_row rfl 153 _ rfl w.heap.size rfl 153 (words4 a0 a1 a2 a3) (0, 0) _ HSW.out Tryz.underlying153 rfl Tryz.size4 ?_)
        refine (HH.out wr).mono ?_
        rintro e W0 ⟨rfl, b0⟩
        have hI0 := isBuilderF_below hI b0
        have hb0 := hbw.trans (b0.mono (by omega))
        have hz0 : w.heap.size + 1 < W0.heap.size := Nat.lt_of_lt_of_le hsz b0.size
        clear hI hbw hsz b0
        go_wp2_with fail
        refine (Tryz.Builder_WriteByte_k (w.heap.size + 1) (w.heap.size + 1) _ _ _ hI0 (by rw [Lib.byteCells_length]; have := HL.out; omega) (by omega)).mono ?_
        rintro e W1 ⟨rfl, h1, b1, _⟩
        have hI1 : Lib.IsBuilderF 142 5 (w.heap.size + 1) (w.heap.size + 1) (Lib.byteCells (escW ws (s.data.toList.take (k + 1)))) W1 := by
          rw [HT.out, show escW1 ws s[k] = [s[k]] by simp [escW1, hh'], Lib.byteCells_append]; exact Or.inr h1
        have hb1 := hb0.trans b1
        have hz1 : w.heap.size + 1 < W1.heap.size := Nat.lt_of_lt_of_le hz0 b1.size
        clear h1 b1
        go_wp2
        go_roundw
        case rel => exact ⟨k + 1, by omega, by go_num, hI1, hb1, hz1⟩
        case measure => simp [intOf]; omega
    · go_wp2_with (go_at_call 97; refine (Tryz.Builder_String_any_k (w.heap.size + 1) (w.heap.size + 1) _ _ hI (by omega)).mono ?_)
      rintro e W1 ⟨rfl, _, b1, _⟩
      go_wp2
      go_ret
      rw [List.take_of_length_le (by simp; omega)]
      exact ⟨rfl, HBW.out.trans ((hbw.trans b1).mono (by omega))⟩
set_option maxHeartbeats 400000 in
theorem Tryz.text_any (s : ByteArray) (set : Int) (w : World) (hs : s.size ≤ 35184372088832) (hset : Tryz.Sets w) (hz : 13 < w.heap.size) :
    Calls Tryz.prog 62 #[.string s, .int .i64 set] w fun e w' => e = .returned (.string ⟨(esc set s.data.toList).toArray⟩) ∧ Below w.heap.size w w' := by
  have HS : Hid (Calls Tryz.prog 108 #[.int .i64 set] w fun e w' => e = .returned (wordsV (setWs set)) ∧ Below w.heap.size w w') := Tryz.setOf_any set w hset hz
  have HE : Hid (escW (setWs set) s.data.toList = esc set s.data.toList) := esc_ws set _
  have HT : Hid (∀ W, Calls Tryz.prog 109 #[wordsV (setWs set), .string s] W fun e w' => e = .returned (.string ⟨(escW (setWs set) s.data.toList).toArray⟩) ∧ Below W.heap.size W w') := fun W => Tryz.setEscape_any s (setWs set) (by unfold setWs; split; exact ⟨_, _, _, _, rfl⟩; exact ⟨_, _, _, _, rfl⟩) W hs
  generalize escW (setWs set) s.data.toList = l at *
  generalize setWs set = ws at *
  clear hset hz
  go_enter Tryz.func62, Tryz.ntmps62
  go_wp2_with fail
  refine HS.out.mono ?_
  rintro e w1 ⟨rfl, b1⟩
  go_wp2_with fail
  refine (HT.out w1).mono ?_
  rintro e w2 ⟨rfl, b2⟩
  go_wp2
  go_ret
  rw [HE.out]
  exact ⟨rfl, b1.trans (b2.mono b1.size)⟩
set_option maxHeartbeats 400000 in
theorem Tryz.escape_any (s : ByteArray) (set : Int) (w : World) (hs : s.size ≤ 35184372088832) (hset : Tryz.Sets w) (hz : 13 < w.heap.size) :
    Calls Tryz.prog 39 #[.string s, .int .i64 set] w fun e w' => e = .returned (.string ⟨(esc set s.data.toList).toArray⟩) ∧ Below w.heap.size w w' := by
  go_enter Tryz.func39, Tryz.ntmps39
  go_wp2_with (go_at_call 62; refine (Tryz.text_any _ _ _ hs hset hz).mono ?_)
  rintro e w' ⟨rfl, hb⟩
  go_wp2
  go_ret
  exact ⟨rfl, hb⟩
end Go.Proofs
