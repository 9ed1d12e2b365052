/-
  What fields.Read answers: a row of its own with the pairs.
-/
import Derived.Test.YtkcnageeamappaaDoorPFields
namespace Go.Proofs
open Go.RowKit Go.Moor

def pcells (p : Bs × Bs) : List Value := [.string ⟨p.1.toArray⟩, .string ⟨p.2.toArray⟩]
def pflat (ps : List (Bs × Bs)) : List Value := ps.flatMap pcells
theorem pflat_app (a b : List (Bs × Bs)) : pflat (a ++ b) = pflat a ++ pflat b := by unfold pflat; rw [List.flatMap_append]
theorem pflat_len (ps : List (Bs × Bs)) : (pflat ps).length = ps.length * 2 := by
  induction ps with
  | nil => rfl
  | cons p ps ih =>
    have : pflat (p :: ps) = pcells p ++ pflat ps := rfl
    rw [this, List.length_append, ih]
    simp [pcells]
    omega
theorem pflat_get : ∀ (ps : List (Bs × Bs)) (j : Nat) (p : Bs × Bs), ps[j]? = some p → (pflat ps)[j * 2]? = some (.string ⟨p.1.toArray⟩) ∧ (pflat ps)[j * 2 + 1]? = some (.string ⟨p.2.toArray⟩)
  | [], j, p, h => by simp at h
  | x :: ps, 0, p, h => by
    simp at h
    subst h
    exact ⟨rfl, rfl⟩
  | x :: ps, j + 1, p, h => by
    have := pflat_get ps j p (by simpa using h)
    have e : pflat (x :: ps) = pcells x ++ pflat ps := rfl
    rw [e]
    have hl : (pcells x).length = 2 := rfl
    rw [show (j + 1) * 2 = (pcells x).length + j * 2 by omega, show (pcells x).length + j * 2 + 1 = (pcells x).length + (j * 2 + 1) by omega]
    rw [List.getElem?_append_right (by omega), List.getElem?_append_right (by omega)]
    simpa using this
theorem pown_below {w w' : World} {base : Nat} {e : TypeId} {size : Nat} {v : Value} {n : Nat} {xs : List Value} (h : w.ownsRow base e size v n xs) (hb : Below w.heap.size w w') : w'.ownsRow base e size v n xs := by
  refine ⟨h.1, ?_⟩
  rcases h.2 with h1 | ⟨g, cap, cur, h1, h2, h3, h4⟩
  · exact Or.inl h1
  · refine Or.inr ⟨g, cap, cur, h1, h2, ?_, h4⟩
    rw [hb.block g (by
      obtain ⟨h5, _⟩ := Array.getElem?_eq_some_iff.1 h3
      exact h5)]
    exact h3
theorem own_pairs {w : World} {B : Nat} {v : Value} {ps : List (Bs × Bs)} (h : w.ownsRow B 30 2 v ps.length (pflat ps)) : PairRow w v ps := by
  rcases h.2 with ⟨rfl, h1⟩ | ⟨g, cap, cur, rfl, h2, h3, h4, h5, h6, h7⟩
  · have : ps = [] := List.length_eq_zero_iff.1 h1
    subst this
    exact ⟨none, 0, rfl, by simp, by unfold maxLen; omega, fun j p hj => by simp at hj⟩
  · refine ⟨some ⟨g, 0, none⟩, cap, rfl, h4, h5, fun j p hj => ?_⟩
    have hlt : j < ps.length := (List.getElem?_eq_some_iff.1 hj).1
    have hc : ∀ i, i < ps.length * 2 → w.cell? ⟨g, i, none⟩ = (pflat ps)[i]? := by
      intro i hi
      rw [← h7, List.getElem?_take, if_pos hi]
      unfold World.cell?
      simp [h3]
    have hg := pflat_get ps j p hj
    exact ⟨g, rfl, (Array.getElem?_eq_some_iff.1 h3).1, (hc _ (by omega)).trans hg.1, (hc _ (by omega)).trans hg.2⟩
theorem own_slice {w : World} {B : Nat} {v : Value} {n : Nat} {xs : List Value} {e : TypeId} {size : Nat} (h : w.ownsRow B e size v n xs) : ∃ sp cap, v = .slice sp n cap := by
  rcases h.2 with ⟨rfl, h1⟩ | ⟨g, cap, cur, rfl, _⟩
  · subst h1; exact ⟨_, _, rfl⟩
  · exact ⟨_, _, rfl⟩

theorem Tryd.infoPair : (Tryd.prog.info? 30).map (fun i => (i.zero, i.size, i.bytes)) = some (some (.agg #[.string ⟨#[]⟩, .string ⟨#[]⟩]), 2, 32) := by kernel_rfl
theorem keep_next (l : List Bs) (q : Nat) (x : Bs) (h : l[q]? = some x) : keepPieces (l.take (q + 1)) = if x.isEmpty then keepPieces (l.take q) else keepPieces (l.take q) ++ [x] := by
  unfold keepPieces
  rw [List.take_add_one, h]
  simp only [Option.toList_some, List.filter_append]
  cases hx : x.isEmpty <;> simp [hx]

set_option maxHeartbeats 4000000 in
theorem Tryd.Read_any (t : Bs) (w : World) (ht : t.length ≤ 100000) (henv : Tryd.EnvP w) :
    Calls Tryd.prog 16 #[.string ⟨t.toArray⟩] w fun e w' => (∃ v, e = .returned v ∧ w'.ownsRow w.heap.size 30 2 v (readPairs t).length (pflat (readPairs t))) ∧ Below w.heap.size w w' := by
  obtain ⟨i0, hi, hz0, hz1, hz2⟩ := info_parts Tryd.infoPair
  have HSP : Hid (Calls Tryd.prog 27 #[.string ⟨t.toArray⟩, .string ⟨#[38]⟩] w fun e w' => ∃ xs : List ByteArray, xs.map (·.data.toList) = splitOn 38 t ∧ e = .returned (.slice (some ⟨w.heap.size, 0, none⟩) xs.length xs.length) ∧ w' = w.alloc (.cells (xs.map Value.string).toArray 9)) := by
    obtain ⟨m, hm⟩ := henv.maxLen
    refine (Tryd.strings_Split ⟨t.toArray⟩ ⟨#[38]⟩ m w (by rw [size_mk]; omega) hm (by show 1 ≤ 1; omega)).mono ?_
    rintro e w' ⟨rfl, rfl⟩
    refine ⟨Lib.splitB ⟨#[38]⟩ 0 (Lib.countB ⟨t.toArray⟩ ⟨#[38]⟩) ⟨t.toArray⟩, ?_, ?_, rfl⟩
    · rw [Lib.splitB_data]
      show Lib.splitK [38] 0 (Lib.count t [38]) t = _
      rw [Lib.count_one]
      exact splitK_eq 38 _ _ rfl
    · rw [Lib.splitB_all _ (by show 1 ≤ 1; omega) 0 _ _ rfl]
  have HRP : Hid (∀ (p : Bs) w1, p.length ≤ 100000 → Below w.heap.size w w1 → Calls Tryd.prog 28 #[.string ⟨p.toArray⟩] w1 fun e w' => e = .returned (.agg #[.string ⟨(readPair p).1.toArray⟩, .string ⟨(readPair p).2.toArray⟩]) ∧ Below w1.heap.size w1 w') := fun p w1 hp h1 => Tryd.readPair_any p w1 hp (henv.below h1)
  have HPL : Hid (∀ p ∈ splitOn 38 t, p.length ≤ 100000) := fun p hp => Nat.le_trans (splitOn_mem 38 t p hp) ht
  have HCN : Hid ((splitOn 38 t).length ≤ 100001) := by
    show _ ≤ _
    have : ∀ l : Bs, (splitOn 38 l).length ≤ l.length + 1 := by
      intro l
      induction l with
      | nil => simp [splitOn]
      | cons c l ih =>
        unfold splitOn
        split
        · simp only [List.length_cons]; omega
        · split
          · rename_i h; rw [h] at ih; simp only [List.length_cons] at ih ⊢; omega
          · simp
    exact Nat.le_trans (this t) (by omega)
  have HRD : Hid (readPairs t = (keepPieces (splitOn 38 t)).map readPair) := rfl
  generalize (⟨t.toArray⟩ : ByteArray) = tb at *
  generalize readPairs t = goal at *
  clear ht henv
  go_enter Tryd.func16, Tryd.ntmps16
  go_wp2_with fail
  refine HSP.out.mono ?_
  rintro e w1 ⟨xs, hxs, rfl, hw1⟩
  obtain ⟨ls, hls⟩ : ∃ ls : List Bs, ls = splitOn 38 t := ⟨_, rfl⟩
  rw [← hls] at hxs HPL HCN HRD
  have hlen : xs.length = ls.length := by rw [← hxs]; simp
  have hb1 : Below w.heap.size w w1 := by rw [hw1]; exact (Below.refl _ _).alloc (Nat.le_refl _) _
  have HC1 : Hid (∀ (j : Nat) x, ls[j]? = some x → w1.cell? ⟨w.heap.size, j, none⟩ = some (.string ⟨x.toArray⟩)) := by
    intro j x hj
    rw [← hxs, List.getElem?_map, Option.map_eq_some_iff] at hj
    obtain ⟨y, hy, rfl⟩ := hj
    have e : w1.heap[w.heap.size]? = some (.cells (xs.map Value.string).toArray 9) := by rw [hw1]; exact heap_alloc_new w _
    simp only [World.cell?, e]
    simp [hy]
  have hz1' : w.heap.size < w1.heap.size := by rw [hw1]; simp
  rw [hlen]
  have HB1 : Hid (Below w.heap.size w w1) := hb1
  have HZ1 : Hid (w.heap.size < w1.heap.size) := hz1'
  have hln := HCN.out
  clear hw1 hb1 hls hxs hlen hz1'
  go_wp2_with fail
  go_loopw [3, 9] (fun s i wr => ∃ (q : Nat) (ps : List (Bs × Bs)), q ≤ ls.length ∧ i = .int .i64 q ∧ wr.ownsRow w.heap.size 30 2 s ps.length (pflat ps) ∧ s.ownBlock ≠ some w.heap.size ∧ (∀ (j : Nat) x, ls[j]? = some x → wr.cell? ⟨w.heap.size, j, none⟩ = some (.string ⟨x.toArray⟩)) ∧ ps = (keepPieces (ls.take q)).map readPair ∧ Below w.heap.size w wr ∧ w.heap.size < wr.heap.size) (fun _ i _ => ls.length - (intOf i).toNat)
  case atStart => exact ⟨0, [], Nat.zero_le _, rfl, ⟨rfl, Or.inl ⟨rfl, rfl⟩⟩, by simp [Value.ownBlock], HC1.out, rfl, HB1.out, HZ1.out⟩
  case round =>
    rename_i wr _
    obtain ⟨q, ps, hq, rfl, hown, hnb, hcs, hps, hb, hwz⟩ := hrel
    obtain ⟨sp, cap, rfl⟩ := own_slice hown
    have HOW : Hid (wr.ownsRow w.heap.size 30 2 (.slice sp ps.length cap) ps.length (pflat ps)) := hown
    have HNB : Hid ((Value.slice sp ps.length cap).ownBlock ≠ some w.heap.size) := hnb
    have HCS : Hid (∀ (j : Nat) x, ls[j]? = some x → wr.cell? ⟨w.heap.size, j, none⟩ = some (.string ⟨x.toArray⟩)) := hcs
    have HPS : Hid (ps = (keepPieces (ls.take q)).map readPair) := hps
    have HB : Hid (Below w.heap.size w wr) := hb
    have hpl : ps.length ≤ 100001 := by
      rw [hps, List.length_map]
      unfold keepPieces
      exact Nat.le_trans (List.length_filter_le _ _) (by rw [List.length_take]; omega)
    have hbz := hb.size
    clear hown hnb hcs hps hb
    by_cases hlt : q < ls.length
    · obtain ⟨x, hx⟩ : ∃ x, ls[q]? = some x := ⟨ls[q], List.getElem?_eq_getElem hlt⟩
      have c1 := HCS.out q x hx
      have hxl := HPL.out x (List.mem_of_getElem? hx)
      have HK : Hid (keepPieces (ls.take (q + 1)) = if x.isEmpty then keepPieces (ls.take q) else keepPieces (ls.take q) ++ [x]) := keep_next ls q x hx
      have hem : (⟨x.toArray⟩ : ByteArray).toList.isEmpty = x.isEmpty := by rw [Lib.toList_data]
      have HRX : Hid (∀ w1, Below w.heap.size w w1 → Calls Tryd.prog 28 #[.string ⟨x.toArray⟩] w1 fun e w' => e = .returned (.agg #[.string ⟨(readPair x).1.toArray⟩, .string ⟨(readPair x).2.toArray⟩]) ∧ Below w1.heap.size w1 w') := fun w1 h1 => HRP.out x w1 hxl h1
      cases hxe : x.isEmpty with
      | true =>
        rw [hxe] at hem HK
        generalize (⟨x.toArray⟩ : ByteArray) = xb at *
        clear hx hxe hxl
        go_wp2
        go_roundw
        case rel => exact ⟨q + 1, ps, by omega, by go_num, HOW.out, HNB.out, HCS.out, by rw [HPS.out, HK.out]; rfl, HB.out, hwz⟩
        case measure => (simp [intOf]; try omega)
      | false =>
        rw [hxe] at hem HK
        generalize hr1 : (⟨(readPair x).1.toArray⟩ : ByteArray) = r1 at *
        generalize hr2 : (⟨(readPair x).2.toArray⟩ : ByteArray) = r2 at *
        generalize (⟨x.toArray⟩ : ByteArray) = xb at *
        have HR12 : Hid (pcells (readPair x) = [.string r1, .string r2]) := by show _ = _; rw [← hr1, ← hr2]; rfl
        clear hx hxe hxl hr1 hr2
        go_wp2_with fail
        refine Calls.mono (HRX.out wr HB.out) ?_
        rintro e w4 ⟨rfl, b4⟩
        have HO4 := (pown_below HOW.out b4).alloc (.cells #[.string r1, .string r2] 30)
        have HK3 : Hid (Below w.heap.size w w4) := HB.out.trans (b4.mono hbz)
        have HK2 : Hid (∀ (j : Nat) x, ls[j]? = some x → w4.cell? ⟨w.heap.size, j, none⟩ = some (.string ⟨x.toArray⟩)) := fun j x hj => (b4.cell (p := ⟨w.heap.size, j, none⟩) hwz).trans (HCS.out j x hj)
        have hw4 : wr.heap.size ≤ w4.heap.size := b4.size
        clear b4
        go_wp2_with (at_builtin; refine wpList_append_lies _ rfl _ _ 28 rfl w.heap.size 30 i0 (.agg #[.string ⟨#[]⟩, .string ⟨#[]⟩]) 2 32 Tryd.underlying28 hi hz0 hz1 hz2 rfl (by decide) _ _ _ rfl HO4 ⟨w4.heap.size, 0, none⟩ 1 1 [.string r1, .string r2] rfl rfl ?c1 ?c2 (by decide) ?c3 ?c4 ?c5 _ rfl ?_)
        case c1 =>
          intro j u hj
          match j, hj with
          | 0, hj => simp at hj; subst hj; exact World.cell?_alloc_new w4 #[.string r1, .string r2] 30 0
          | 1, hj => simp at hj; subst hj; exact World.cell?_alloc_new w4 #[.string r1, .string r2] 30 1
        case c2 => intro u hu; simp at hu; rcases hu with rfl | rfl <;> rfl
        case c3 => unfold maxLen; omega
        case c4 => omega
        case c5 => simp; omega
        intro g cap3 w5 hown' hgrow hat hglt
        have HOW5 : Hid (w5.ownsRow w.heap.size 30 2 (.slice (some ⟨g, 0, none⟩) (ps.length + 1) cap3) (ps.length + 1) (pflat ps ++ [.string r1, .string r2])) := hown'
        have HPN : Hid ((Value.slice (some ⟨g, 0, none⟩) (ps.length + 1) cap3).ownBlock ≠ some w.heap.size) := by
          intro h
          have hg : g = w.heap.size := by simpa [Value.ownBlock] using h
          rcases hat with h1 | h1
          · exact HNB.out (by rw [h1, hg])
          · first | omega | (simp at h1; omega)
        have HCN5 : Hid (∀ (j : Nat) x, ls[j]? = some x → w5.cell? ⟨w.heap.size, j, none⟩ = some (.string ⟨x.toArray⟩)) := by
          intro j x hx
          refine hgrow.cell ?_ (fun h => HNB.out h.symm)
          rw [World.cell?_alloc_lt _ _ ⟨w.heap.size, j, none⟩ (by show w.heap.size < w4.heap.size; omega)]
          exact HK2.out j x hx
        have HBN : Hid (Below w.heap.size w w5) := (HK3.out.alloc (by omega) _).grown hgrow (by simp; omega) (fun k hk => (HO4.lt k hk).1)
        have hzn : w.heap.size < w5.heap.size := by
          have := hgrow.size
          simp at this
          omega
        clear hown' hgrow HO4 hat
        go_wp2
        go_roundw
        case rel =>
          refine ⟨q + 1, ps ++ [readPair x], by omega, by go_num, ?_, ?_, HCN5.out, ?_, HBN.out, hzn⟩
          · rw [List.length_append, pflat_app]
            have e : pflat [readPair x] = [.string r1, .string r2] := by
              show pcells (readPair x) ++ [] = _
              rw [HR12.out]
              rfl
            rw [e]
            exact HOW5.out
          · exact HPN.out
          · rw [HPS.out, HK.out]
            simp
        case measure => (simp [intOf]; try omega)
    · have HG : Hid (goal = ps) := by
        show _ = _
        rw [HRD.out, HPS.out, List.take_of_length_le (by omega)]
      go_wp2
      go_ret
      rw [HG.out]
      exact ⟨⟨_, rfl, HOW.out⟩, HB.out⟩
end Go.Proofs
