/-
  What host.longestNoughts and host.tellPieces answer.
-/
import Derived.Test.YtkcnageeamappaaGreatDoorSFmt
namespace Go.Proofs
open Go.RowKit Go.Moor

theorem Tryz.infoStr : (Tryz.prog.info? 9).map (fun i => (i.zero, i.size, i.bytes)) = some (some (.string ⟨#[]⟩), 1, 16) := by kernel_rfl

set_option maxHeartbeats 4000000 in
theorem Tryz.tellPieces_any (b o cap : Nat) (ps : List Nat) (w : World) (hb : b < w.heap.size) (hn : ps.length ≤ 8) (hcap : ps.length ≤ cap) (hcap2 : cap ≤ 8) (hps : ∀ p ∈ ps, p < 65536)
    (hcl : ∀ (j : Nat) p, ps[j]? = some p → w.cell? ⟨b, o + j, none⟩ = some (.int .u64 (p : Nat))) (henv : Tryz.Env w) (htz : Tryz.Tz w) :
    Calls Tryz.prog 196 #[.slice (some ⟨b, o, none⟩) ps.length cap] w fun e w' => e = .returned (.string ⟨(tellRow ps).toArray⟩) ∧ Below w.heap.size w w' := by
  have HC : Hid (∀ (j : Nat) p, ps[j]? = some p → w.cell? ⟨b, o + j, none⟩ = some (.int .u64 (p : Nat))) := hcl
  have HS : Hid (∀ p ∈ ps, p < 65536) := hps
  have HV : Hid (Tryz.Env w) := henv
  have HT : Hid (Tryz.Tz w) := htz
  obtain ⟨i0, hi, hz0, hz1, hz2⟩ := info_parts Tryz.infoStr
  have hgz := henv.size
  clear hcl hps henv htz
  go_enter Tryz.func196, Tryz.ntmps196
  go_wp2
  go_loopw [3, 8] (fun v i wr => ∃ q : Nat, q ≤ ps.length ∧ i = .int .i64 q ∧ wr.ownsRow w.heap.size 9 1 v q ((ps.take q).map fun p => Value.string (pieceStr p)) ∧ Below w.heap.size w wr) (fun _ i _ => ps.length - (intOf i).toNat)
  case atStart => exact ⟨0, Nat.zero_le _, rfl, World.ownsRow_nil _ _ _ _, Below.refl _ _⟩
  case round =>
    obtain ⟨q, hq, rfl, hown, hbw⟩ := hrel
    have HB : Hid (Below w.heap.size w wr) := hbw
    have HO : Hid (wr.ownsRow w.heap.size 9 1 _ q ((ps.take q).map fun p => Value.string (pieceStr p))) := hown
    have hwz := hbw.size
    clear hbw hown
    by_cases hlt : q < ps.length
    · obtain ⟨x, hx⟩ : ∃ x, ps[q]? = some x := ⟨ps[q]'hlt, by simp⟩
      have hc : wr.cell? ⟨b, o + q, none⟩ = some (.int .u64 (x : Nat)) := (HB.out.cell (by exact hb)).trans (HC.out q x hx)
      have hxm := HS.out x (List.mem_of_getElem? hx)
      have HTK : Hid ((ps.take (q + 1)).map (fun p => Value.string (pieceStr p)) = (ps.take q).map (fun p => Value.string (pieceStr p)) ++ [.string (pieceStr x)]) := by
        show _ = _
        rw [List.take_add_one, hx]
        simp
      have HVr : Hid (Tryz.Env wr) := HV.out.below HB.out
      have HTr : Hid (Tryz.Tz wr) := HT.out.below HB.out (by omega)
      clear hx
      go_wp2_with fail
      refine (Tryz.fmt16_any x hxm _ HVr.out HTr.out).mono ?_
      rintro e w2 ⟨rfl, hb2⟩
      have hown2 := own_below HO.out hb2
      have HO2 := hown2.alloc (.cells #[.string (pieceStr x)] 9)
      have HB2 : Hid (Below w.heap.size w w2) := HB.out.trans (hb2.mono hwz)
      have hw2 := HB2.out.size
      have hps : (⟨(digsF 16 3 x).toArray⟩ : ByteArray) = pieceStr x := rfl
      clear hb2 hown2
      go_wp2_with (at_builtin; refine wpList_append_own _ rfl _ _ 28 rfl w.heap.size 9 i0 (.string ⟨#[]⟩) 1 16 Tryz.underlying28 hi hz0 hz1 hz2 rfl (by decide) _ _ _ rfl HO2 ⟨w2.heap.size, 0, none⟩ 1 1 [.string (pieceStr x)] rfl rfl ?c1 ?c2 ?c3 ?c4 ?c5 ?_)
      case c1 =>
        intro j u hj
        match j, hj with
        | 0, hj => simp at hj; subst hj; exact World.cell?_alloc_new w2 #[.string (pieceStr x)] 9 0
      case c2 => intro u hu; simp at hu; subst hu; rfl
      case c3 => unfold maxLen; omega
      case c4 => omega
      case c5 => simp; omega
      intro v' w3 hown' hgrow _
      have HOW : Hid (w3.ownsRow w.heap.size 9 1 v' (q + 1) ((ps.take q).map (fun p => Value.string (pieceStr p)) ++ [.string (pieceStr x)])) := by
        show World.ownsRow _ _ _ _ _ _ _
        rw [List.map_take]
        exact hown'
      have HBB : Hid (Below w.heap.size w w3) := (HB2.out.alloc (by omega) _).grown hgrow (by simp; omega) (fun k hk => (HO2.lt k hk).1)
      clear hown' hgrow HO2
      go_wp2
      go_roundw
      case rel =>
        refine ⟨q + 1, by omega, by go_num, ?_, HBB.out⟩
        rw [HTK.out]
        exact HOW.out
      case measure => simp [intOf]; omega
    · have hqe : q = ps.length := by omega
      subst hqe
      have hown := HO.out
      rw [List.take_length] at hown
      obtain ⟨sp, cap2, rfl, hform⟩ := own_form hown
      have HCT : Hid (Calls Tryz.prog 189 #[.slice sp ps.length cap2, .string ⟨#[58]⟩] wr fun e w' => e = .returned (.string ⟨(tellRow ps).toArray⟩) ∧ Below wr.heap.size wr w') := by
        by_cases h0 : ps.length = 0
        · have := Tryz.strings_Join_none sp cap2 ⟨#[58]⟩ wr
          have he : ps = [] := List.eq_nil_of_length_eq_zero h0
          subst he
          refine this.mono ?_
          rintro e w' ⟨rfl, rfl⟩
          exact ⟨rfl, Below.refl _ _⟩
        · obtain ⟨g, rfl, _, hcells⟩ := hform (by omega)
          have hcc : ps.length ≤ cap2 := by
            rcases hown.2 with ⟨h, _⟩ | ⟨g', cap', cur, h, _, _, h4, _⟩
            · cases h
            · cases h; exact h4
          have hj := Tryz.strings_Join g 0 cap2 (ps.map pieceStr) ⟨#[58]⟩ wr (by
              intro j x hx
              rw [Nat.zero_add]
              refine hcells j (.string x) ?_
              rw [List.getElem?_map] at hx ⊢
              cases hp : ps[j]? with
              | none => rw [hp] at hx; simp at hx
              | some p => rw [hp] at hx; simp at hx ⊢; exact hx) (by
              obtain ⟨x, hx⟩ : ∃ x, ps[0]? = some x := ⟨ps[0]'(by omega), by simp⟩
              exact block_lt_of_cell (hcells 0 (.string (pieceStr x)) (by rw [List.getElem?_map, hx]; rfl))) (by simp; omega) (by simpa using hcc) (by
              have := tellRow_len ps
              unfold tellRow at this
              have e : ((ps.map pieceStr).map (·.data.toList)) = ps.map pieceTxt := by
                rw [List.map_map]; rfl
              rw [e]
              show (Lib.join (ps.map pieceTxt) [58]).length ≤ _
              omega)
          have e : ((ps.map pieceStr).map (·.data.toList)) = ps.map pieceTxt := by
            rw [List.map_map]; rfl
          rw [e, List.length_map] at hj
          exact hj
      clear hown hform
      go_wp2_with fail
      refine HCT.out.mono ?_
      rintro e w2 ⟨rfl, hb2⟩
      go_wp2
      go_ret
      exact ⟨rfl, HB.out.trans (hb2.mono hwz)⟩
end Go.Proofs
