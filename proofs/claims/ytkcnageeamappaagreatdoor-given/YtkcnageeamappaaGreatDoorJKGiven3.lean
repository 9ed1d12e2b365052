/-
  What Given of package moorkeep answers where another part is given, and the address is not too long.
-/
import Derived.Test.YtkcnageeamappaaGreatDoorJKGivenE
import Derived.Test.YtkcnageeamappaaGreatDoorJKWords2
namespace Go.Proofs
open Go.RowKit Go.Moor

/-- What the walk needs of the two addresses: no other part changes; the text that is given again. -/
structure GivenFacts (n : Int) (sc1 us1 pw1 : ByteArray) (hh1 : Bool) (ho1 : ByteArray) (po1 : Int) (pt1 : ByteArray) (qh1 : Bool) (qu1 : ByteArray) (fh1 : Bool) (fr1 : ByteArray) (sc2 us2 pw2 : ByteArray) (hh2 : Bool) (ho2 : ByteArray) (po2 : Int) (pt2 : ByteArray) (qh2 : Bool) (qu2 : ByteArray) (fh2 : Bool) (fr2 : ByteArray) (st dg : ByteArray) : Prop where
  f1 : n = 1 ∨ sc1 = sc2
  f2 : n = 2 ∨ us1 = us2
  f3 : n = 3 ∨ pw1 = pw2
  f4 : n = 4 ∨ (ho1 = ho2 ∧ hh1 = hh2)
  f5 : n = 5 ∨ po1 = po2 ∨ (n = 1 ∧ po2 = -1)
  f6 : n = 6 ∨ pt1 = pt2
  f7 : n = 7 ∨ (qu1 = qu2 ∧ qh1 = qh2)
  f8 : n = 8 ∨ (fr1 = fr2 ∧ fh1 = fh2)
  s1 : n = 1 → st = sc2
  s2 : n = 2 → st = us2
  s3 : n = 3 → st = pw2
  s4 : n = 4 → st = ho2
  s5 : n = 5 → 0 ≤ po2 → st = dg
  s5' : n = 5 → ¬ 0 ≤ po2 → st = ⟨#[]⟩
  s6 : n = 6 → st = pt2
  po : po2 = -1 ∨ (0 ≤ po2 ∧ po2 ≤ 65535)

theorem givenFacts {a b : Adr} {n : Int} {v : Bs} (h : setPart hostTell a n v = .ok b) (hg : Moor.Good hostTell b) :
    GivenFacts n (⟨a.scheme.toArray⟩ : ByteArray) (⟨a.auth.user.toArray⟩ : ByteArray) (⟨a.auth.pass.toArray⟩ : ByteArray) a.auth.has (⟨a.auth.host.toArray⟩ : ByteArray) a.auth.port (⟨(tellWay a.way).toArray⟩ : ByteArray) a.query.isSome (⟨(a.query.getD []).toArray⟩ : ByteArray) a.frag.isSome (⟨(a.frag.getD []).toArray⟩ : ByteArray) (⟨b.scheme.toArray⟩ : ByteArray) (⟨b.auth.user.toArray⟩ : ByteArray) (⟨b.auth.pass.toArray⟩ : ByteArray) b.auth.has (⟨b.auth.host.toArray⟩ : ByteArray) b.auth.port (⟨(tellWay b.way).toArray⟩ : ByteArray) b.query.isSome (⟨(b.query.getD []).toArray⟩ : ByteArray) b.frag.isSome (⟨(b.frag.getD []).toArray⟩ : ByteArray) ⟨(partText b n).toArray⟩ ⟨(decB b.auth.port).toArray⟩ := by
  obtain ⟨h1, h2, h3, h4, h5, h6, h7, h8⟩ := setPart_rest hostTell a b n v h
  refine ⟨?_, ?_, ?_, ?_, h5, ?_, ?_, ?_, ?_, ?_, ?_, ?_, ?_, ?_, ?_, ?_⟩
  · rcases h1 with h | h
    · exact Or.inl h
    · exact Or.inr (by rw [h])
  · rcases h2 with h | h
    · exact Or.inl h
    · exact Or.inr (by rw [h])
  · rcases h3 with h | h
    · exact Or.inl h
    · exact Or.inr (by rw [h])
  · rcases h4 with h | h
    · exact Or.inl h
    · exact Or.inr ⟨by rw [h.1], h.2⟩
  · rcases h6 with h | h
    · exact Or.inl h
    · exact Or.inr (by rw [h])
  · rcases h7 with h | h
    · exact Or.inl h
    · exact Or.inr ⟨by rw [h], by rw [h]⟩
  · rcases h8 with h | h
    · exact Or.inl h
    · exact Or.inr ⟨by rw [h], by rw [h]⟩
  · rintro rfl; rfl
  · rintro rfl; rfl
  · rintro rfl; rfl
  · rintro rfl; rfl
  · rintro rfl h0
    unfold partText
    rw [if_neg (by decide), if_neg (by decide), if_neg (by decide), if_neg (by decide), if_pos rfl, if_pos h0]
  · rintro rfl h0
    unfold partText
    rw [if_neg (by decide), if_neg (by decide), if_neg (by decide), if_neg (by decide), if_pos rfl, if_neg h0]
  · rintro rfl; rfl
  · rcases hg.port with h | h
    · exact Or.inl h
    · exact Or.inr ⟨h.1, h.2.1⟩

set_option maxHeartbeats 16000000 in
set_option maxRecDepth 8000 in
theorem Tryz.Given_told (t v : Bs) (part : Int) (a b : Adr) (w : World) (hp0 : -(2 ^ 63) ≤ part) (hp1 : part < 2 ^ 63) (ht : t.length ≤ maxLen) (hvl : v.length ≤ maxLen) (henv : Tryz.Env3 w) (ha : alone t = .ok a) (hs : setPart hostTell a (1 + pickN part 8) (bareB v) = .ok b) (hv2 : v.length ≤ 2000) (hl : (tellAddr b).length ≤ 2000) :
    Calls Tryz.prog 12 #[.string ⟨t.toArray⟩, .int .i64 part, .string ⟨v.toArray⟩] w fun e w' => e = .returned (.bool true) ∧ Below w.heap.size w w' := by
  have hga : Moor.Good hostTell a := alone_good (by rw [← alone_is']; exact ha)
  have hg : Moor.Good hostTell b := setPart_good hostTell hostLaws a b _ _ hga hs
  have hk := pickN_lt part 8 (by omega)
  have HW : Hid (Calls Tryz.prog 19 #[] w fun e w' => e = .returned (.bool true) ∧ Below w.heap.size w w') := Tryz.works_any w henv.env2
  have HPI : Hid (∀ w1, Calls Tryz.prog 14 #[.int .i64 part, .int .i64 8] w1 fun e w' => e = .returned (.int .i64 (pickN part 8)) ∧ w' = w1) := fun w1 => Tryz.pick_fun part 8 w1 hp0 hp1 (by omega) (by omega)
  have HSP : Hid (∀ w1, Below w.heap.size w w1 → Calls Tryz.prog 22 #[.string ⟨t.toArray⟩] w1 fun e w' => e = .returned (.tuple #[.agg (partCells a), .int .i64 0]) ∧ Below w1.heap.size w1 w') := fun w1 h1 => Tryz.Split_ok t a w1 ha ht (henv.env2.below h1)
  have hwp : withPart hostTell t (1 + pickN part 8) v = .ok (tellAddr b) := by
    rw [withPart_told hv2 ha, hs]
    rfl
  have HWI : Hid (∀ w1, Below w.heap.size w w1 → Calls Tryz.prog 28 #[.string ⟨t.toArray⟩, .int .i64 (1 + pickN part 8), .string ⟨v.toArray⟩] w1 fun e w' => e = .returned (.tuple #[.string ⟨(tellAddr b).toArray⟩, .int .i64 0]) ∧ Below w1.heap.size w1 w') := by
    intro w1 h1
    have := Tryz.With_any t v (1 + pickN part 8) w1 ht hvl (by omega) (by omega) (henv.below h1)
    rw [hwp] at this
    exact this
  have HPA : Hid (∀ w1, Below w.heap.size w w1 → Calls Tryz.prog 20 #[.string ⟨(tellAddr b).toArray⟩, .string ⟨#[]⟩] w1 fun e w' => e = .returned (.tuple #[.string ⟨(tellAddr b).toArray⟩, .int .i64 0]) ∧ Below w1.heap.size w1 w') := by
    intro w1 h1
    have := Tryz.Parse_any (tellAddr b) [] w1 (by unfold maxLen; omega) (by decide) (henv.env2.below h1)
    rw [again_one hg hl] at this
    exact this
  have HS2 : Hid (∀ w1, Below w.heap.size w w1 → Calls Tryz.prog 22 #[.string ⟨(tellAddr b).toArray⟩] w1 fun e w' => e = .returned (.tuple #[.agg (partCells b), .int .i64 0]) ∧ Below w1.heap.size w1 w') := fun w1 h1 => Tryz.Split_ok (tellAddr b) b w1 (alone_told hg hl) (by unfold maxLen; omega) (henv.env2.below h1)
  have HWS : Hid (1 + (pickN part 8 : Int) ≤ 6 → ∀ w1, Below w.heap.size w w1 → Calls Tryz.prog 28 #[.string ⟨(tellAddr b).toArray⟩, .int .i64 (1 + pickN part 8), .string ⟨(partText b (1 + pickN part 8)).toArray⟩] w1 fun e w' => e = .returned (.tuple #[.string ⟨(tellAddr b).toArray⟩, .int .i64 0]) ∧ Below w1.heap.size w1 w') := by
    intro h6 w1 h1
    have hsame := withPart_same hga hs ⟨by omega, h6⟩ hl
    have hpl := (partText_sub b hg (1 + pickN part 8)).length_le
    have := Tryz.With_any (tellAddr b) (partText b (1 + pickN part 8)) (1 + pickN part 8) w1 (by unfold maxLen; omega) (by unfold maxLen; omega) (by omega) (by omega) (henv.below h1)
    rw [hsame] at this
    exact this
  have HGF : Hid _ := givenFacts hs hg
  have HDG : Hid (∀ W1, 0 ≤ b.auth.port → Calls Tryz.prog 17 #[.int .i64 b.auth.port, .int .i64 10] W1 fun e w' => e = .returned (.string ⟨(decB b.auth.port).toArray⟩) ∧ Below W1.heap.size W1 w') := by
    intro W1 h0
    have hp2 : b.auth.port ≤ 65535 := by
      rcases hg.port with h | h
      · omega
      · exact h.2.1
    refine (Tryz.digits10_int b.auth.port W1 h0 (by omega)).mono ?_
    rintro e w' ⟨rfl, nd, rfl⟩
    refine ⟨?_, Go.below_drewN (Below.refl _ _) nd⟩
    rw [digs_dec 31 b.auth.port.toNat (Nat.lt_of_lt_of_le (by omega : b.auth.port.toNat < 4294967296) (pow_big 10 (by omega)))]
    rfl
  have HPC1 : Hid (partCells a = #[.string (⟨a.scheme.toArray⟩ : ByteArray), .string (⟨a.auth.user.toArray⟩ : ByteArray), .string (⟨a.auth.pass.toArray⟩ : ByteArray), .bool a.auth.has, .string (⟨a.auth.host.toArray⟩ : ByteArray), .int .i64 a.auth.port, .bool a.way.opaq, .string (⟨(tellWay a.way).toArray⟩ : ByteArray), .bool a.query.isSome, .string (⟨(a.query.getD []).toArray⟩ : ByteArray), .bool a.frag.isSome, .string (⟨(a.frag.getD []).toArray⟩ : ByteArray)]) := rfl
  have HPC2 : Hid (partCells b = #[.string (⟨b.scheme.toArray⟩ : ByteArray), .string (⟨b.auth.user.toArray⟩ : ByteArray), .string (⟨b.auth.pass.toArray⟩ : ByteArray), .bool b.auth.has, .string (⟨b.auth.host.toArray⟩ : ByteArray), .int .i64 b.auth.port, .bool b.way.opaq, .string (⟨(tellWay b.way).toArray⟩ : ByteArray), .bool b.query.isSome, .string (⟨(b.query.getD []).toArray⟩ : ByteArray), .bool b.frag.isSome, .string (⟨(b.frag.getD []).toArray⟩ : ByteArray)]) := rfl
  have hzs : (⟨(tellAddr b).toArray⟩ : ByteArray).size = (tellAddr b).length := size_mk _
  have hs2 : ((⟨(tellAddr b).toArray⟩ : ByteArray).size : Int) ≤ 2000 := by omega
  obtain ⟨p1, hp1'⟩ : ∃ p, p = partCells a := ⟨_, rfl⟩
  obtain ⟨p2, hp2'⟩ : ∃ p, p = partCells b := ⟨_, rfl⟩
  have HPO1 : Hid (p1.all (·.oneCell') = true) := by show _ = _; rw [hp1']; exact partCells_one a
  have HPO2 : Hid (p2.all (·.oneCell') = true) := by show _ = _; rw [hp2']; exact partCells_one b
  have HPZ1 : Hid ((Tryz.prog.info? 40).map (·.size) = some p1.size) := by show _ = _; rw [hp1']; exact Tryz.sizeParts
  have HPZ2 : Hid ((Tryz.prog.info? 40).map (·.size) = some p2.size) := by show _ = _; rw [hp2']; exact Tryz.sizeParts
  have HPS1 : Hid (zeroParts.size = p1.size) := by show _ = _; rw [hp1']; rfl
  have HPS2 : Hid (zeroParts.size = p2.size) := by show _ = _; rw [hp2']; rfl
  rw [← hp1'] at HSP HPC1
  rw [← hp2'] at HS2 HPC2
  clear hp1' hp2'
  obtain ⟨k, hkk⟩ : ∃ k : Nat, k = pickN part 8 := ⟨_, rfl⟩
  obtain ⟨n, hn⟩ : ∃ n : Int, n = 1 + (k : Int) := ⟨_, rfl⟩
  rw [← hkk] at HPI HWI HWS HGF hk
  rw [← hn] at HWI HWS HGF
  have hwr : IntKind.i64.wrap (1 + (k : Int)) = n := by
    rw [hn]
    exact wrap_i64 _ (by omega) (by omega)
  have hn8 : n = 1 ∨ n = 2 ∨ n = 3 ∨ n = 4 ∨ n = 5 ∨ n = 6 ∨ n = 7 ∨ n = 8 := by omega
  have HN8 : Hid _ := hn8
  obtain ⟨sb, hsb⟩ : ∃ sb : ByteArray, sb = ⟨(tellAddr b).toArray⟩ := ⟨_, rfl⟩
  rw [← hsb] at HWI HPA HS2 HWS hs2
  generalize (⟨(partText b n).toArray⟩ : ByteArray) = st at *
  generalize (⟨(decB b.auth.port).toArray⟩ : ByteArray) = dg at *
  generalize (⟨a.scheme.toArray⟩ : ByteArray) = sc1 at *
  generalize (⟨a.auth.user.toArray⟩ : ByteArray) = us1 at *
  generalize (⟨a.auth.pass.toArray⟩ : ByteArray) = pw1 at *
  generalize a.auth.has = hh1 at *
  generalize (⟨a.auth.host.toArray⟩ : ByteArray) = ho1 at *
  generalize a.auth.port = po1 at *
  generalize a.way.opaq = op1 at *
  generalize (⟨(tellWay a.way).toArray⟩ : ByteArray) = pt1 at *
  generalize a.query.isSome = qh1 at *
  generalize (⟨(a.query.getD []).toArray⟩ : ByteArray) = qu1 at *
  generalize a.frag.isSome = fh1 at *
  generalize (⟨(a.frag.getD []).toArray⟩ : ByteArray) = fr1 at *
  generalize (⟨b.scheme.toArray⟩ : ByteArray) = sc2 at *
  generalize (⟨b.auth.user.toArray⟩ : ByteArray) = us2 at *
  generalize (⟨b.auth.pass.toArray⟩ : ByteArray) = pw2 at *
  generalize b.auth.has = hh2 at *
  generalize (⟨b.auth.host.toArray⟩ : ByteArray) = ho2 at *
  generalize b.auth.port = po2 at *
  generalize b.way.opaq = op2 at *
  generalize (⟨(tellWay b.way).toArray⟩ : ByteArray) = pt2 at *
  generalize b.query.isSome = qh2 at *
  generalize (⟨(b.query.getD []).toArray⟩ : ByteArray) = qu2 at *
  generalize b.frag.isSome = fh2 at *
  generalize (⟨(b.frag.getD []).toArray⟩ : ByteArray) = fr2 at *
  generalize (⟨t.toArray⟩ : ByteArray) = tb at *
  generalize (⟨v.toArray⟩ : ByteArray) = vb at *
  clear hga hg hk hp0 hp1 ht hvl henv ha hs hv2 hl hwp hzs hkk hn hn8 hsb
  go_enter Tryz.func12, Tryz.ntmps12
  go_wp2_with fail
  refine HW.out.mono ?_
  rintro e w1 ⟨rfl, b1⟩
  go_wp2_with fail
  refine Calls.mono (HPI.out w1) ?_
  rintro e W0 ⟨rfl, hw0⟩
  have hw0 := hw0.symm
  subst hw0
  go_wp2_with fail
  refine Calls.mono (HSP.out w1 b1) ?_
  rintro e w3 ⟨rfl, b3⟩
  have HB3 : Hid (Below w.heap.size w w3) := b1.trans (b3.mono b1.size)
  obtain ⟨V, hV⟩ : ∃ V, V = (w3.alloc (.cells zeroParts 40)).setRow w3.heap.size p1 := ⟨_, rfl⟩
  have HN : Hid ((w3.alloc (.cells zeroParts 40)).heap[w3.heap.size]? = some (.cells zeroParts 40 (0, 0))) := alloc_here w3 _ _
  have hVc : V.heap[w3.heap.size]? = some (.cells p1 40 (0, 0)) := by
    rw [hV]
    exact setRow_here HN.out _
  have hVB : Below w3.heap.size w3 V := by
    rw [hV]
    exact below_setRow ((Below.refl _ _).alloc (Nat.le_refl _) _) (Nat.le_refl _) _
  have HVB : Hid (∀ w1, Below V.heap.size V w1 → Below w.heap.size w w1) := fun w1 h1 => (HB3.out.trans (hVB.mono HB3.out.size)).trans (h1.mono (Nat.le_trans HB3.out.size hVB.size))
  have HVC : Hid (∀ w1, Below V.heap.size V w1 → w1.heap[w3.heap.size]? = some (.cells p1 40 (0, 0))) := fun w1 h1 => (h1.block _ (Array.getElem?_eq_some_iff.1 hVc).1).trans hVc
  have HVE : Hid (V = (w3.alloc (.cells zeroParts 40)).setRow w3.heap.size p1) := hV
  clear b1 b3 hV hVc hVB HSP HW HPI HB3
  go_upto_region 4 with (refine wpList_store_row rfl 40 _ _ rfl w3.heap.size p1 rfl rfl 40 zeroParts HN.out HPZ1.out HPS1.out HPO1.out ?_)
  have hve := HVE.out
  unfold zeroParts at hve
  rw [← hve]
  clear hve HVE HN HPZ1 HPS1 HPO1
  go_wp2_with fail
  refine Calls.mono (HWI.out V (HVB.out V (Below.refl _ _))) ?_
  rintro e w5 ⟨rfl, b5⟩
  go_wp2_with fail
  refine Calls.mono (HPA.out w5 (HVB.out w5 b5)) ?_
  rintro e w6 ⟨rfl, b6⟩
  have b6 := b5.trans (b6.mono b5.size)
  go_wp2_with fail
  refine Calls.mono (HS2.out w6 (HVB.out w6 b6)) ?_
  rintro e w7 ⟨rfl, b7⟩
  have b7 := b6.trans (b7.mono b6.size)
  obtain ⟨U, hU⟩ : ∃ U, U = (w7.alloc (.cells zeroParts 40)).setRow w7.heap.size p2 := ⟨_, rfl⟩
  have HN : Hid ((w7.alloc (.cells zeroParts 40)).heap[w7.heap.size]? = some (.cells zeroParts 40 (0, 0))) := alloc_here w7 _ _
  have hUc : U.heap[w7.heap.size]? = some (.cells p2 40 (0, 0)) := by
    rw [hU]
    exact setRow_here HN.out _
  have hUB : Below w7.heap.size w7 U := by
    rw [hU]
    exact below_setRow ((Below.refl _ _).alloc (Nat.le_refl _) _) (Nat.le_refl _) _
  have hUV : Below V.heap.size V U := b7.trans (hUB.mono b7.size)
  have HUB : Hid (∀ w1, Below U.heap.size U w1 → Below w.heap.size w w1) := fun w1 h1 => HVB.out w1 (hUV.trans (h1.mono hUV.size))
  have hUa := HVC.out U hUV
  have HUE : Hid (U = (w7.alloc (.cells zeroParts 40)).setRow w7.heap.size p2) := hU
  have hca := hUa
  have hcb := hUc
  rw [HPC1.out] at hca
  rw [HPC2.out] at hcb
  have c0 : U.cell? ⟨w3.heap.size, 0, none⟩ = some (.string sc1) := cell_heap hca 0
  have d0 : U.cell? ⟨w7.heap.size, 0, none⟩ = some (.string sc2) := cell_heap hcb 0
  have c1 : U.cell? ⟨w3.heap.size, 1, none⟩ = some (.string us1) := cell_heap hca 1
  have d1 : U.cell? ⟨w7.heap.size, 1, none⟩ = some (.string us2) := cell_heap hcb 1
  have c2 : U.cell? ⟨w3.heap.size, 2, none⟩ = some (.string pw1) := cell_heap hca 2
  have d2 : U.cell? ⟨w7.heap.size, 2, none⟩ = some (.string pw2) := cell_heap hcb 2
  have c3 : U.cell? ⟨w3.heap.size, 3, none⟩ = some (.bool hh1) := cell_heap hca 3
  have d3 : U.cell? ⟨w7.heap.size, 3, none⟩ = some (.bool hh2) := cell_heap hcb 3
  have c4 : U.cell? ⟨w3.heap.size, 4, none⟩ = some (.string ho1) := cell_heap hca 4
  have d4 : U.cell? ⟨w7.heap.size, 4, none⟩ = some (.string ho2) := cell_heap hcb 4
  have c5 : U.cell? ⟨w3.heap.size, 5, none⟩ = some (.int .i64 po1) := cell_heap hca 5
  have d5 : U.cell? ⟨w7.heap.size, 5, none⟩ = some (.int .i64 po2) := cell_heap hcb 5
  have c7 : U.cell? ⟨w3.heap.size, 7, none⟩ = some (.string pt1) := cell_heap hca 7
  have d7 : U.cell? ⟨w7.heap.size, 7, none⟩ = some (.string pt2) := cell_heap hcb 7
  have c8 : U.cell? ⟨w3.heap.size, 8, none⟩ = some (.bool qh1) := cell_heap hca 8
  have d8 : U.cell? ⟨w7.heap.size, 8, none⟩ = some (.bool qh2) := cell_heap hcb 8
  have c9 : U.cell? ⟨w3.heap.size, 9, none⟩ = some (.string qu1) := cell_heap hca 9
  have d9 : U.cell? ⟨w7.heap.size, 9, none⟩ = some (.string qu2) := cell_heap hcb 9
  have c10 : U.cell? ⟨w3.heap.size, 10, none⟩ = some (.bool fh1) := cell_heap hca 10
  have d10 : U.cell? ⟨w7.heap.size, 10, none⟩ = some (.bool fh2) := cell_heap hcb 10
  have c11 : U.cell? ⟨w3.heap.size, 11, none⟩ = some (.string fr1) := cell_heap hca 11
  have d11 : U.cell? ⟨w7.heap.size, 11, none⟩ = some (.string fr2) := cell_heap hcb 11
  clear b5 b6 b7 hU hUc hUB hUV hUa hca hcb HVC HVB HWI HPA HS2 HPC1
  go_upto_region 13 with (refine wpList_store_row rfl 40 _ _ rfl w7.heap.size p2 rfl rfl 40 zeroParts HN.out HPZ2.out HPS2.out HPO2.out ?_)
  have hue := HUE.out
  unfold zeroParts at hue
  rw [← hue]
  clear hue HUE HN HPZ2 HPS2 HPO2 HPC2
  go_upto_region 15 with fail
  clear hs2 hwr
  go_cut [17] (fun x wx => x = .bool true ∧ wx = U)
  case first =>
    as_aux_lemma =>
      by_cases hn : n = 1
      · subst hn
        go_wp2_with fail
        go_meet
        exact ⟨rfl, rfl⟩
      · have hf := HGF.out.f1.resolve_left hn
        subst hf
        go_wp2_with fail
        go_meet
        exact ⟨rfl, rfl⟩
  case rest =>
  obtain ⟨hx, hwc⟩ := hcut
  subst hx
  have hwc := hwc.symm
  subst hwc
  go_upto_region 16 with fail
  go_cut [18] (fun x wx => x = .bool true ∧ wx = U)
  case first =>
    as_aux_lemma =>
      by_cases hn : n = 2
      · subst hn
        go_wp2_with fail
        go_meet
        exact ⟨rfl, rfl⟩
      · have hf := HGF.out.f2.resolve_left hn
        subst hf
        go_wp2_with fail
        go_meet
        exact ⟨rfl, rfl⟩
  case rest =>
  obtain ⟨hx, hwc⟩ := hcut
  subst hx
  have hwc := hwc.symm
  subst hwc
  go_upto_region 17 with fail
  go_cut [19] (fun x wx => x = .bool true ∧ wx = U)
  case first =>
    as_aux_lemma =>
      by_cases hn : n = 3
      · subst hn
        go_wp2_with fail
        go_meet
        exact ⟨rfl, rfl⟩
      · have hf := HGF.out.f3.resolve_left hn
        subst hf
        go_wp2_with fail
        go_meet
        exact ⟨rfl, rfl⟩
  case rest =>
  obtain ⟨hx, hwc⟩ := hcut
  subst hx
  have hwc := hwc.symm
  subst hwc
  go_upto_region 18 with fail
  go_cut [20] (fun x wx => x = .bool true ∧ wx = U)
  case first =>
    as_aux_lemma =>
      by_cases hn : n = 4
      · subst hn
        go_wp2_with fail
        go_meet
        exact ⟨rfl, rfl⟩
      · obtain ⟨hf, hf2⟩ := HGF.out.f4.resolve_left hn
        subst hf
        subst hf2
        go_wp2_with fail
        go_meet
        exact ⟨rfl, rfl⟩
  case rest =>
  obtain ⟨hx, hwc⟩ := hcut
  subst hx
  have hwc := hwc.symm
  subst hwc
  go_upto_region 19 with fail
  go_cut [21] (fun x wx => x = .bool true ∧ wx = U)
  case first =>
    as_aux_lemma =>
      by_cases hn : n = 5
      · subst hn
        go_wp2_with fail
        go_meet
        exact ⟨rfl, rfl⟩
      · by_cases hpp : po1 = po2
        · subst hpp
          go_wp2_with fail
          go_meet
          exact ⟨rfl, rfl⟩
        · obtain ⟨hf, hf2⟩ := (HGF.out.f5.resolve_left hn).resolve_left hpp
          subst hf
          subst hf2
          go_wp2_with fail
          go_meet
          exact ⟨rfl, rfl⟩
  case rest =>
  obtain ⟨hx, hwc⟩ := hcut
  subst hx
  have hwc := hwc.symm
  subst hwc
  go_upto_region 20 with fail
  go_cut [22] (fun x wx => x = .bool true ∧ wx = U)
  case first =>
    as_aux_lemma =>
      by_cases hn : n = 6
      · subst hn
        go_wp2_with fail
        go_meet
        exact ⟨rfl, rfl⟩
      · have hf := HGF.out.f6.resolve_left hn
        subst hf
        go_wp2_with fail
        go_meet
        exact ⟨rfl, rfl⟩
  case rest =>
  obtain ⟨hx, hwc⟩ := hcut
  subst hx
  have hwc := hwc.symm
  subst hwc
  go_upto_region 21 with fail
  go_cut [23] (fun x wx => x = .bool true ∧ wx = U)
  case first =>
    as_aux_lemma =>
      by_cases hn : n = 7
      · subst hn
        go_wp2_with fail
        go_meet
        exact ⟨rfl, rfl⟩
      · obtain ⟨hf, hf2⟩ := HGF.out.f7.resolve_left hn
        subst hf
        subst hf2
        go_wp2_with fail
        go_meet
        exact ⟨rfl, rfl⟩
  case rest =>
  obtain ⟨hx, hwc⟩ := hcut
  subst hx
  have hwc := hwc.symm
  subst hwc
  go_upto_region 22 with fail
  go_cut [24] (fun x wx => x = .bool true ∧ wx = U)
  case first =>
    as_aux_lemma =>
      by_cases hn : n = 8
      · subst hn
        go_wp2_with fail
        go_meet
        exact ⟨rfl, rfl⟩
      · obtain ⟨hf, hf2⟩ := HGF.out.f8.resolve_left hn
        subst hf
        subst hf2
        go_wp2_with fail
        go_meet
        exact ⟨rfl, rfl⟩
  case rest =>
  obtain ⟨hx, hwc⟩ := hcut
  subst hx
  have hwc := hwc.symm
  subst hwc
  go_upto_region 26 with fail
  clear c0 c1 c2 c3 c4 c5 c7 c8 c9 c10 c11 d3 d8 d9 d10 d11
  rcases HN8.out with rfl | rfl | rfl | rfl | rfl | rfl | rfl | rfl
  · as_aux_lemma =>
      have hst := HGF.out.s1 rfl
      subst hst
      go_wp2_with fail
      refine Calls.mono (HWS.out (by decide) U (HUB.out U (Below.refl _ _))) ?_
      rintro e w9 ⟨rfl, b9⟩
      have HB9 : Hid (Below w.heap.size w w9) := HUB.out w9 b9
      clear b9
      go_wp2_with fail
      go_ret
      exact ⟨rfl, HB9.out⟩
  · as_aux_lemma =>
      have hst := HGF.out.s2 rfl
      subst hst
      go_wp2_with fail
      refine Calls.mono (HWS.out (by decide) U (HUB.out U (Below.refl _ _))) ?_
      rintro e w9 ⟨rfl, b9⟩
      have HB9 : Hid (Below w.heap.size w w9) := HUB.out w9 b9
      clear b9
      go_wp2_with fail
      go_ret
      exact ⟨rfl, HB9.out⟩
  · as_aux_lemma =>
      have hst := HGF.out.s3 rfl
      subst hst
      go_wp2_with fail
      refine Calls.mono (HWS.out (by decide) U (HUB.out U (Below.refl _ _))) ?_
      rintro e w9 ⟨rfl, b9⟩
      have HB9 : Hid (Below w.heap.size w w9) := HUB.out w9 b9
      clear b9
      go_wp2_with fail
      go_ret
      exact ⟨rfl, HB9.out⟩
  · as_aux_lemma =>
      have hst := HGF.out.s4 rfl
      subst hst
      go_wp2_with fail
      refine Calls.mono (HWS.out (by decide) U (HUB.out U (Below.refl _ _))) ?_
      rintro e w9 ⟨rfl, b9⟩
      have HB9 : Hid (Below w.heap.size w w9) := HUB.out w9 b9
      clear b9
      go_wp2_with fail
      go_ret
      exact ⟨rfl, HB9.out⟩
  · by_cases h0 : 0 ≤ po2
    · as_aux_lemma =>
      have hst := HGF.out.s5 rfl h0
      subst hst
      go_wp2_with fail
      refine Calls.mono (HDG.out _ h0) ?_
      rintro e w8 ⟨rfl, b8⟩
      have b8 := b8
      go_wp2_with fail
      refine Calls.mono (HWS.out (by decide) w8 (HUB.out w8 b8)) ?_
      rintro e w9 ⟨rfl, b9⟩
      have HB9 : Hid (Below w.heap.size w w9) := HUB.out w9 (b8.trans (b9.mono b8.size))
      clear b9
      go_wp2_with fail
      go_ret
      exact ⟨rfl, HB9.out⟩
    · as_aux_lemma =>
      have hst := HGF.out.s5' rfl h0
      subst hst
      go_wp2_with fail
      refine Calls.mono (HWS.out (by decide) U (HUB.out U (Below.refl _ _))) ?_
      rintro e w9 ⟨rfl, b9⟩
      have HB9 : Hid (Below w.heap.size w w9) := HUB.out w9 b9
      clear b9
      go_wp2_with fail
      go_ret
      exact ⟨rfl, HB9.out⟩
  · as_aux_lemma =>
      have hst := HGF.out.s6 rfl
      subst hst
      go_wp2_with fail
      refine Calls.mono (HWS.out (by decide) U (HUB.out U (Below.refl _ _))) ?_
      rintro e w9 ⟨rfl, b9⟩
      have HB9 : Hid (Below w.heap.size w w9) := HUB.out w9 b9
      clear b9
      go_wp2_with fail
      go_ret
      exact ⟨rfl, HB9.out⟩
  · as_aux_lemma =>
      go_wp2_with fail
      go_ret
      exact ⟨rfl, HUB.out U (Below.refl _ _)⟩
  · as_aux_lemma =>
      go_wp2_with fail
      go_ret
      exact ⟨rfl, HUB.out U (Below.refl _ _)⟩
end Go.Proofs
/-
  What Given of package moorkeep answers of any text, part and value.
-/
namespace Go.Proofs
open Go.RowKit Go.Moor

theorem Tryz.Given_any (t : ByteArray) (part : Int) (v : ByteArray) (w : World) (hp0 : -(2 ^ 63) ≤ part) (hp1 : part < 2 ^ 63) (ht : t.size ≤ maxLen) (hv : v.size ≤ maxLen) (henv : Tryz.Env3 w) :
    Calls Tryz.prog 12 #[.string t, .int .i64 part, .string v] w fun e w' => e = .returned (.bool true) ∧ Below w.heap.size w w' := by
  have e1 : t = ⟨t.data.toList.toArray⟩ := rfl
  have e2 : v = ⟨v.data.toList.toArray⟩ := rfl
  rw [e1, e2]
  have ht2 : t.data.toList.length ≤ maxLen := by rw [Array.length_toList]; exact ht
  have hv2 : v.data.toList.length ≤ maxLen := by rw [Array.length_toList]; exact hv
  generalize t.data.toList = tl at *
  generalize v.data.toList = vl at *
  clear e1 e2 ht hv
  have hk := pickN_lt part 8 (by omega)
  have hw : ∀ w1, Below w.heap.size w w1 → Calls Tryz.prog 28 #[.string ⟨tl.toArray⟩, .int .i64 (1 + (pickN part 8 : Int)), .string ⟨vl.toArray⟩] w1 fun e w' => e = ParseRes (withPart hostTell tl (1 + (pickN part 8 : Int)) vl) ∧ Below w1.heap.size w1 w' := fun w1 h1 => Tryz.With_any tl vl _ w1 ht2 hv2 (by omega) (by omega) (henv.below h1)
  cases ha : alone tl with
  | error n =>
    obtain ⟨m, hm, hm0⟩ := withPart_no (p := 1 + (pickN part 8 : Int)) (v := vl) (show readAlone hostTell tl = .error n by rw [← alone_is']; exact ha)
    rw [hm] at hw
    exact Tryz.Given_short _ _ part zeroParts ⟨#[]⟩ n m w hp0 hp1 henv rfl zeroParts_one (fun w1 h1 => Tryz.Split_err tl n w1 ha ht2 (henv.env2.below h1)) hw (Or.inl ⟨hm0, rfl⟩)
  | ok a =>
    have hsp : ∀ w1, Below w.heap.size w w1 → Calls Tryz.prog 22 #[.string ⟨tl.toArray⟩] w1 fun e w' => e = .returned (.tuple #[.agg (partCells a), .int .i64 0]) ∧ Below w1.heap.size w1 w' := fun w1 h1 => Tryz.Split_ok tl a w1 ha ht2 (henv.env2.below h1)
    cases hwp : withPart hostTell tl (1 + (pickN part 8 : Int)) vl with
    | error m =>
      rw [hwp] at hw
      exact Tryz.Given_short _ _ part (partCells a) ⟨#[]⟩ 0 m w hp0 hp1 henv rfl (partCells_one a) hsp hw (Or.inl ⟨withPart_err hwp, rfl⟩)
    | ok s =>
      obtain ⟨b, hb, hg, rfl⟩ := withPart_ok (show readAlone hostTell tl = .ok a by rw [← alone_is']; exact ha) hwp
      by_cases hl : (tellAddr b).length ≤ 2000
      · have hvl : vl.length ≤ 2000 := by
          unfold withPart at hwp
          split at hwp
          · cases hwp
          · omega
        exact Tryz.Given_told tl vl part a b w hp0 hp1 ht2 hv2 henv ha hb hvl hl
      · rw [hwp] at hw
        exact Tryz.Given_short _ _ part (partCells a) ⟨(tellAddr b).toArray⟩ 0 0 w hp0 hp1 henv rfl (partCells_one a) hsp hw (Or.inr ⟨rfl, rfl, by rw [size_mk]; omega⟩)
end Go.Proofs
