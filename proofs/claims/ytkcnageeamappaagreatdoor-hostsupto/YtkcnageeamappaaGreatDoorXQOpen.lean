import Derived.Test.YtkcnageeamappaaGreatDoorRows
import Derived.Test.YtkcnageeamappaaGreatDoorXQ16
import Derived.WalkKit
import Derived.ProofKit
import Derived.OpenShut
import Derived.Carry
import Derived.Deep.Slices
import Derived.Deep.Strs
namespace Go.Proofs.YtkcnageeamappaaGreatDoor
open Go.ChangeShapes Go.WideShapes Go.ChangeAt Go.RowKit Go.Moor
theorem bulk_one {H : Type} (d : DataW H) : 1 ≤ Rows.uptoBulk d := by
  cases d with
  | lit l => cases l <;> simp [Rows.uptoBulk]
  | _ => simp [Rows.uptoBulk]
theorem bulk_in {H : Type} {d : DataW H} : ∀ {l : List (DataW H)}, d ∈ l → Rows.uptoBulk d ≤ Rows.uptoBulkAll l
  | [], h => by cases h
  | x :: r, h => by
    rw [Rows.uptoBulkAll]
    rcases List.mem_cons.1 h with rfl | h
    · omega
    · have := bulk_in h; omega
theorem bulk_count {H : Type} : ∀ l : List (DataW H), l.length ≤ Rows.uptoBulkAll l
  | [] => Nat.zero_le _
  | x :: r => by
    have h1 := bulk_one x
    have h2 := bulk_count r
    rw [Rows.uptoBulkAll, List.length_cons]
    omega
theorem cellsOp : Tryz.prog.cellsOf 60 = 6 := by kernel_rfl
theorem cells_int : Tryz.prog.cellsOf 3 = 1 := by kernel_rfl
theorem cells_bool : Tryz.prog.cellsOf 4 = 1 := by kernel_rfl
theorem cells_str : Tryz.prog.cellsOf 9 = 1 := by kernel_rfl
theorem cells_pairs : Tryz.prog.cellsOf 58 = 1 := by kernel_rfl
set_option maxRecDepth 100000 in
theorem open_op {H : Type} {enc : TypeId × Value → H} {W : World} {n : Nat} {cs : List Value} {d : DataW H} {pl : List MemPlace}
    (h : DataW.trod enc Tryz.prog W 0 (fun _ => true) true n 60 cs = some (d, pl)) :
    ∃ (o : OpV) (d5 : DataW H) (p5 : List MemPlace) (m : Nat), cs = [.int .i64 o.kind, .int .i64 o.n, .bool o.flag, .string o.S, .string o.T, o.lv] ∧ d = .agg [.lit (.int .i64 o.kind), .lit (.int .i64 o.n), .lit (.bool o.flag), .lit (.string o.S.data.toList), .lit (.string o.T.data.toList), d5] ∧
      DataW.trod enc Tryz.prog W 0 (fun _ => true) true m 58 [o.lv] = some (d5, p5) := by
  obtain ⟨xs, m, _, hx, hl, hlen, hf⟩ := DataW.trod_struct Tryz.underlying60 h
  rw [cellsOp] at hl
  have hlen : xs.length = 6 := hlen
  match cs, hl, xs, hlen with
  | [c0, c1, c2, c3, c4, c5], _, [y0, y1, y2, y3, y4, y5], _ =>
    have f0 : DataW.trod enc Tryz.prog W 0 (fun _ => true) true m 3 [c0] = some y0 := by
      have this : DataW.trod enc Tryz.prog W 0 (fun _ => true) true m 3 (([c0, c1, c2, c3, c4, c5].drop 0).take (Tryz.prog.cellsOf 3)) = some y0 := hf 0 _ rfl
      rw [cells_int] at this
      exact this
    have f1 : DataW.trod enc Tryz.prog W 0 (fun _ => true) true m 3 [c1] = some y1 := by
      have this : DataW.trod enc Tryz.prog W 0 (fun _ => true) true m 3 (([c0, c1, c2, c3, c4, c5].drop 1).take (Tryz.prog.cellsOf 3)) = some y1 := hf 1 _ rfl
      rw [cells_int] at this
      exact this
    have f2 : DataW.trod enc Tryz.prog W 0 (fun _ => true) true m 4 [c2] = some y2 := by
      have this : DataW.trod enc Tryz.prog W 0 (fun _ => true) true m 4 (([c0, c1, c2, c3, c4, c5].drop 2).take (Tryz.prog.cellsOf 4)) = some y2 := hf 2 _ rfl
      rw [cells_bool] at this
      exact this
    have f3 : DataW.trod enc Tryz.prog W 0 (fun _ => true) true m 9 [c3] = some y3 := by
      have this : DataW.trod enc Tryz.prog W 0 (fun _ => true) true m 9 (([c0, c1, c2, c3, c4, c5].drop 3).take (Tryz.prog.cellsOf 9)) = some y3 := hf 3 _ rfl
      rw [cells_str] at this
      exact this
    have f4 : DataW.trod enc Tryz.prog W 0 (fun _ => true) true m 9 [c4] = some y4 := by
      have this : DataW.trod enc Tryz.prog W 0 (fun _ => true) true m 9 (([c0, c1, c2, c3, c4, c5].drop 4).take (Tryz.prog.cellsOf 9)) = some y4 := hf 4 _ rfl
      rw [cells_str] at this
      exact this
    have f5 : DataW.trod enc Tryz.prog W 0 (fun _ => true) true m 58 [c5] = some y5 := by
      have this : DataW.trod enc Tryz.prog W 0 (fun _ => true) true m 58 (([c0, c1, c2, c3, c4, c5].drop 5).take (Tryz.prog.cellsOf 58)) = some y5 := hf 5 _ rfl
      rw [cells_pairs] at this
      exact this
    obtain ⟨k, e0, x0, _⟩ := DataW.trod_int Tryz.underlying3 f0
    obtain ⟨n', e1, x1, _⟩ := DataW.trod_int Tryz.underlying3 f1
    obtain ⟨b, e2, x2⟩ := DataW.trod_bool Tryz.underlying4 f2
    obtain ⟨S, e3, x3, _⟩ := DataW.trod_string Tryz.underlying9 f3
    obtain ⟨T, e4, x4, _⟩ := DataW.trod_string Tryz.underlying9 f4
    injection e0 with e0 _
    injection e1 with e1 _
    injection e2 with e2 _
    injection e3 with e3 _
    injection e4 with e4 _
    subst e0 e1 e2 e3 e4 x0 x1 x2 x3 x4
    refine ⟨⟨k, n', b, S, T, c5⟩, y5.1, y5.2, m, rfl, ?_, f5⟩
    have := congrArg Prod.fst hx
    simpa using this
theorem add_plain6 (g off k : Nat) : (⟨g, off, none⟩ : Go.Addr).add k = ⟨g, off + k, none⟩ := by
  unfold Go.Addr.add
  split
  · rename_i h; rw [h]; rfl
  · rfl
theorem spot_none {W : World} {a : Go.Addr} {v : Value} (h : W.cell? a = some v) : a.spot = none ∧ a.block < W.heap.size := by
  unfold World.cell? at h
  constructor
  · split at h
    · split at h
      · cases h
      · rename_i h2; simpa using h2
    · cases h
  · by_cases hb : a.block < W.heap.size
    · exact hb
    · rw [Array.getElem?_eq_none (show W.heap.size ≤ a.block by omega)] at h
      simp at h
set_option maxRecDepth 100000 in
theorem open_ops {H : Type} {enc : TypeId × Value → H} {W : World} {base : Nat} {v : Value} {d : DataW H} {p : List MemPlace} (hv : Value.okWide Tryz.prog W .any base 22 v)
    (h0 : DataW.Trod enc Tryz.prog W 0 (fun _ => true) true 22 v d p) (hk : Rows.uptoBulk d ≤ 1048576) :
    ∃ (sp : Option Go.Addr) (cap : Nat) (os : List OpV), v = .slice sp os.length cap ∧ OpRow W sp os ∧ os.length ≤ 2097152 ∧ ∀ o ∈ os, o.S.size ≤ 2097152 ∧ o.T.size ≤ 2097152 ∧ ∃ (d5 : DataW H) (p5 : List MemPlace) (m : Nat), DataW.trod enc Tryz.prog W 0 (fun _ => true) true m 58 [o.lv] = some (d5, p5) ∧ Rows.uptoBulk d5 ≤ 1048576 := by
  obtain ⟨a0, len, cap, rfl⟩ := okWide_slice Tryz.underlying22 hv
  obtain ⟨fuel, hf⟩ := h0
  rcases Go.Deep.open_slice Tryz.underlying22 hf with ⟨hcs, hx⟩ | ⟨a, len', cap', m, n, D, Pl, hcs, _, hl, hm, hmm, hx, hel⟩
  · simp [Value.cells] at hcs
    obtain ⟨rfl, rfl, rfl⟩ := hcs
    exact ⟨none, 0, [], rfl, fun j o hj => by simp at hj, by simp, fun o ho => by cases ho⟩
  · simp [Value.cells] at hcs
    obtain ⟨rfl, rfl, rfl⟩ := hcs
    simp only [if_true] at hmm
    have each : ∀ i, i < len → ∃ q : OpV × DataW H × List MemPlace × Nat, (∀ (i' : Nat) c, [Value.int .i64 q.1.kind, .int .i64 q.1.n, .bool q.1.flag, .string q.1.S, .string q.1.T, q.1.lv][i']? = some c → W.cell? ((a.add (i * 6)).add i') = some c) ∧
        D i = .agg [.lit (.int .i64 q.1.kind), .lit (.int .i64 q.1.n), .lit (.bool q.1.flag), .lit (.string q.1.S.data.toList), .lit (.string q.1.T.data.toList), q.2.1] ∧ DataW.trod enc Tryz.prog W 0 (fun _ => true) true q.2.2.2 58 [q.1.lv] = some (q.2.1, q.2.2.1) := by
      intro i hi
      obtain ⟨cs', h1, h2⟩ := hel i (by omega)
      rw [cellsOp] at h1
      obtain ⟨_, hlen, hc⟩ := World.cells?_some h1
      obtain ⟨o, d5, p5, m5, rfl, hd, h5⟩ := open_op h2
      refine ⟨(o, d5, p5, m5), fun i' c hi' => ?_, hd, h5⟩
      have hlt : i' < 6 := by
        have := (List.getElem?_eq_some_iff.1 hi').1
        simpa using this
      rw [hc i' hlt, hi']
    obtain ⟨Q, hQ⟩ := Go.Deep.choose_lt (α := OpV × DataW H × List MemPlace × Nat) each
    have hd : d = .slice ((List.range len).map D) ((List.range (m - len)).map fun j => D (len + j)) := congrArg Prod.fst hx
    rw [hd, Rows.uptoBulk] at hk
    have hcount := bulk_count ((List.range len).map D)
    rw [List.length_map, List.length_range] at hcount
    refine ⟨some a, cap, (List.range len).map fun i => (Q i).1, by simp, ?_, by simp; omega, ?_⟩
    · intro j o hj
      have hjl : j < len := by
        have := (List.getElem?_eq_some_iff.1 hj).1
        simpa using this
      rw [List.getElem?_map, List.getElem?_range hjl] at hj
      simp only [Option.map_some, Option.some.injEq] at hj
      subst hj
      have hc := (hQ j hjl).1
      have h00 := (hQ 0 (by omega)).1 0 _ rfl
      have hsa := spot_none h00
      have hae : a = ⟨a.block, a.off, none⟩ := by
        have : ((a.add (0 * 6)).add 0) = a := by rw [Nat.zero_mul]; rfl
        rw [this] at hsa
        cases a
        simp at hsa
        rw [hsa.1]
      have hbl : a.block < W.heap.size := by
        have : ((a.add (0 * 6)).add 0) = a := by rw [Nat.zero_mul]; rfl
        rw [this] at hsa
        exact hsa.2
      generalize a.block = g at *
      generalize a.off = off at *
      subst hae
      refine ⟨g, off, rfl, hbl, ?_, ?_, ?_, ?_, ?_, ?_⟩
      · have := hc 0 _ rfl; rw [add_plain6, add_plain6] at this; exact this
      · have := hc 1 _ rfl; rw [add_plain6, add_plain6] at this; exact this
      · have := hc 2 _ rfl; rw [add_plain6, add_plain6] at this; exact this
      · have := hc 3 _ rfl; rw [add_plain6, add_plain6] at this; exact this
      · have := hc 4 _ rfl; rw [add_plain6, add_plain6] at this; exact this
      · have := hc 5 _ rfl; rw [add_plain6, add_plain6] at this; exact this
    · intro o ho
      obtain ⟨i, hi, rfl⟩ := List.mem_map.1 ho
      have hil := List.mem_range.1 hi
      obtain ⟨_, hD, h5⟩ := hQ i hil
      have hb := bulk_in (List.mem_map.2 ⟨i, hi, rfl⟩ : D i ∈ (List.range len).map D)
      rw [hD] at hb
      simp only [Rows.uptoBulk, Rows.uptoBulkAll] at hb
      have hs1 : (Q i).1.S.data.toList.length = (Q i).1.S.size := by rw [Array.length_toList]; rfl
      have hs2 : (Q i).1.T.data.toList.length = (Q i).1.T.size := by rw [Array.length_toList]; rfl
      rw [hs1, hs2] at hb
      exact ⟨by omega, by omega, _, _, _, h5, by omega⟩
end Go.Proofs.YtkcnageeamappaaGreatDoor
