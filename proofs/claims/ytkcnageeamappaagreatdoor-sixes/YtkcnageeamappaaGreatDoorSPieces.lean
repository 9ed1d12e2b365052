/-
  What host.readPieces answers: the pieces, in a row of its own, or nil and an error.
-/
import Derived.Test.YtkcnageeamappaaGreatDoorSNum
import Derived.OwnWalk
namespace Go.Proofs
open Go.RowKit Go.Moor

theorem Tryz.infoU64 : (Tryz.prog.info? 151).map (fun i => (i.zero, i.size, i.bytes)) = some (some (.int .u64 0), 1, 8) := by kernel_rfl

/-- A row of pieces of the call's own and no error, or nil and an error. -/
def Tryz.RowRes (B : Nat) (o : Option (List Int)) (e : Ending) (w' : World) : Prop :=
  match o with
  | some ps => ∃ v, e = .returned (.tuple #[v, .nilIface]) ∧ w'.ownsRow B 151 1 v ps.length (ps.map (Value.int .u64))
  | none => ∃ t v, e = .returned (.tuple #[.slice none 0 0, .iface t v])

set_option maxHeartbeats 1000000 in
theorem Tryz.readPieces_nil (w : World) :
    Calls Tryz.prog 191 #[.slice none 0 0] w fun e w' => e = .returned (.tuple #[.slice none 0 0, .nilIface]) ∧ w' = w := by
  go_enter Tryz.func191, Tryz.ntmps191
  go_wp2
  go_loop [4, 11] (fun v i => v = .slice none 0 0 ∧ i = .int .i64 0) (fun _ _ => 0)
  case atStart => exact ⟨rfl, rfl⟩
  case round =>
    obtain ⟨rfl, rfl⟩ := hrel
    go_wp2
    go_ret2
    exact ⟨rfl, rfl⟩

set_option maxHeartbeats 4000000 in
theorem Tryz.readPieces_row (b cap : Nat) (xs : List ByteArray) (w : World) (hb : b < w.heap.size) (hcap : xs.length ≤ cap) (hcap2 : cap ≤ 4294967282) (hs : ∀ x ∈ xs, x.size ≤ maxLen)
    (hcl : ∀ (j : Nat) x, xs[j]? = some x → w.cell? ⟨b, j, none⟩ = some (.string x)) (henv : Tryz.Env w) :
    Calls Tryz.prog 191 #[.slice (some ⟨b, 0, none⟩) xs.length cap] w fun e w' => Tryz.RowRes w.heap.size (sixPieces (xs.map (·.data.toList))) e w' ∧ Below w.heap.size w w' := by
  have HC : Hid (∀ (j : Nat) x, xs[j]? = some x → w.cell? ⟨b, j, none⟩ = some (.string x)) := hcl
  have HS : Hid (∀ x ∈ xs, x.size ≤ maxLen) := hs
  have HV : Hid (Tryz.Env w) := henv
  obtain ⟨i0, hi, hz0, hz1, hz2⟩ := info_parts Tryz.infoU64
  generalize hgo : sixPieces (xs.map (·.data.toList)) = goal
  have HG : Hid (sixAcc [] (xs.map (·.data.toList)) = goal) := hgo
  clear hcl hs henv hgo
  go_enter Tryz.func191, Tryz.ntmps191
  go_wp2
  go_loopw [4, 11] (fun v i wr => ∃ (q : Nat) (ps : List Int), q ≤ xs.length ∧ i = .int .i64 q ∧ ps.length = q ∧ wr.ownsRow w.heap.size 151 1 v ps.length (ps.map (Value.int .u64)) ∧ sixAcc ps ((xs.map (·.data.toList)).drop q) = goal ∧ Below w.heap.size w wr) (fun _ i _ => xs.length - (intOf i).toNat)
  case atStart => exact ⟨0, [], Nat.zero_le _, rfl, rfl, World.ownsRow_nil _ _ _ _, HG.out, Below.refl _ _⟩
  case round =>
    obtain ⟨q, ps, hq, rfl, hpl, hown, hrest, hbw⟩ := hrel
    have HR : Hid (sixAcc ps ((xs.map (·.data.toList)).drop q) = goal) := hrest
    have HB : Hid (Below w.heap.size w wr) := hbw
    have HO : Hid (wr.ownsRow w.heap.size 151 1 _ ps.length (ps.map (Value.int .u64))) := hown
    have hwz := hbw.size
    clear hrest hbw hown
    by_cases hlt : q < xs.length
    · obtain ⟨x, hx⟩ : ∃ x, xs[q]? = some x := ⟨xs[q]'hlt, by simp⟩
      have hc : wr.cell? ⟨b, q, none⟩ = some (.string x) := (HB.out.cell (by exact hb)).trans (HC.out q x hx)
      have hxm := HS.out x (List.mem_of_getElem? hx)
      have HST : Hid (sixAcc ps ((xs.map (·.data.toList)).drop q) = (match sixPiece x.data.toList with | some n => sixAcc (ps ++ [n]) ((xs.map (·.data.toList)).drop (q + 1)) | none => none)) := sixAcc_step xs q x ps hx
      have HVr : Hid (Tryz.Env wr) := HV.out.below HB.out
      clear hx
      cases ho : sixPiece x.data.toList with
      | none =>
        have HN : Hid (sixPiece x.data.toList = none) := ho
        clear ho
        go_wp2_with fail
        refine (Tryz.readPiece_any x _ hxm HVr.out.eGreat HVr.out.eLength).mono ?_
        rw [HN.out]
        rintro e w2 ⟨⟨te, ve, rfl⟩, nd2, rfl⟩
        go_wp2
        go_ret2
        refine ⟨?_, Go.below_drewN HB.out _⟩
        have h1 := HR.out
        rw [HST.out, HN.out] at h1
        rw [← h1]
        exact ⟨_, _, rfl⟩
      | some n =>
        have HN : Hid (sixPiece x.data.toList = some n) := ho
        clear ho
        go_wp2_with fail
        refine (Tryz.readPiece_any x _ hxm HVr.out.eGreat HVr.out.eLength).mono ?_
        rw [HN.out]
        rintro e w2 ⟨rfl, nd2, rfl⟩
        have hown2 := (show (wr.drewN nd2).ownsRow w.heap.size 151 1 _ ps.length (ps.map (Value.int .u64)) from HO.out)
        have HO2 := hown2.alloc (.cells #[.int .u64 n] 151)
        go_wp2_with (at_builtin; refine wpList_append_own _ rfl _ _ 225 rfl w.heap.size 151 i0 (.int .u64 0) 1 8 Tryz.underlying225 hi hz0 hz1 hz2 rfl (by decide) _ _ _ rfl HO2 ⟨wr.heap.size, 0, none⟩ 1 1 [.int .u64 n] rfl rfl ?c1 ?c2 ?c3 ?c4 ?c5 ?_)
        case c1 =>
          intro j u hj
          match j, hj with
          | 0, hj => simp at hj; subst hj; exact World.cell?_alloc_new (wr.drewN nd2) #[.int .u64 n] 151 0
        case c2 => intro u hu; simp at hu; subst hu; rfl
        case c3 => unfold maxLen; omega
        case c4 => omega
        case c5 => simp; omega
        intro v' w1 hown' hgrow _
        have HOW : Hid (w1.ownsRow w.heap.size 151 1 v' (q + 1) (ps.map (Value.int .u64) ++ [.int .u64 n])) := hown'
        have HBB : Hid (Below w.heap.size w w1) := ((Go.below_drewN HB.out nd2).alloc (by simpa using hwz) _).grown hgrow (by simp; omega) (fun k hk => (HO2.lt k hk).1)
        clear hown' hgrow hown2 HO2
        go_wp2
        go_roundw
        case rel =>
          refine ⟨q + 1, ps ++ [n], by omega, by go_num, by simp [hpl], ?_, ?_, HBB.out⟩
          · have := HOW.out
            rw [List.length_append, List.map_append, hpl]
            exact this
          · have h1 := HR.out
            rw [HST.out, HN.out] at h1
            exact h1
        case measure => simp [intOf]; omega
    · go_wp2
      go_ret2
      refine ⟨?_, HB.out⟩
      have h1 := HR.out
      rw [List.drop_eq_nil_of_le (by simp; omega)] at h1
      rw [← h1]
      exact ⟨_, rfl, HO.out⟩
end Go.Proofs
