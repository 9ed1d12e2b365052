/-
  What host.readLastPieces answers.
-/
import Derived.Test.YtkcnageeamappaaGreatDoorSDotted
namespace Go.Proofs
open Go.RowKit Go.Moor

theorem own_below {w w' : World} {base : Nat} {e : TypeId} {size : Nat} {v : Value} {n : Nat} {xs : List Value} (h : w.ownsRow base e size v n xs) (hb : Below w.heap.size w w') : w'.ownsRow base e size v n xs := by
  refine ⟨h.1, ?_⟩
  rcases h.2 with h1 | ⟨g, cap, cur, h1, h2, h3, h4⟩
  · exact Or.inl h1
  · refine Or.inr ⟨g, cap, cur, h1, h2, ?_, h4⟩
    rw [hb.block g (by
      obtain ⟨h5, _⟩ := Array.getElem?_eq_some_iff.1 h3
      exact h5)]
    exact h3

theorem Tryz.rowRes_ret {B : Nat} {o : Option (List Int)} {e : Ending} {w : World} (h : Tryz.RowRes B o e w) : ∃ a b, e = .returned (.tuple #[a, b]) ∧ Tryz.RowRes B o (.returned (.tuple #[a, b])) w := by
  cases o with
  | some ps => obtain ⟨v, rfl, h⟩ := h; exact ⟨v, .nilIface, rfl, v, rfl, h⟩
  | none => obtain ⟨t, v, h⟩ := h; exact ⟨.slice none 0 0, .iface t v, h, ⟨t, v, rfl⟩⟩

set_option maxHeartbeats 2000000 in
theorem Tryz.readLast_nil (w : World) :
    Calls Tryz.prog 193 #[.slice none 0 0] w fun e w' => e = .returned (.tuple #[.slice none 0 0, .nilIface]) ∧ w' = w := by
  go_enter Tryz.func193, Tryz.ntmps193
  go_wp2_with fail
  refine (Tryz.readPieces_nil _).mono ?_
  rintro e w1 ⟨rfl, rfl⟩
  go_wp2
  go_ret2
  exact ⟨rfl, rfl⟩

set_option maxHeartbeats 2000000 in
theorem Tryz.readLast_plain (b : Nat) (xs : List ByteArray) (x : ByteArray) (w : World) (hb : b < w.heap.size) (hcap2 : xs.length ≤ 4294967282) (hs : ∀ x ∈ xs, x.size < 4294967281)
    (hcl : ∀ (j : Nat) x, xs[j]? = some x → w.cell? ⟨b, j, none⟩ = some (.string x)) (henv : Tryz.Env w) (hx : xs[xs.length - 1]? = some x) (hno : decide (0 ≤ Lib.indexByte x.data.toList 46) = false) :
    Calls Tryz.prog 193 #[.slice (some ⟨b, 0, none⟩) xs.length xs.length] w fun e w' => Tryz.RowRes w.heap.size (sixPieces (xs.map (·.data.toList))) e w' ∧ Below w.heap.size w w' := by
  have hc := hcl _ x hx
  have HCT : Hid (Calls Tryz.prog 191 #[.slice (some ⟨b, 0, none⟩) xs.length xs.length] w fun e w' => Tryz.RowRes w.heap.size (sixPieces (xs.map (·.data.toList))) e w' ∧ Below w.heap.size w w') :=
    Tryz.readPieces_row b xs.length xs w hb (Nat.le_refl _) hcap2 (fun x hx => by have := hs x hx; unfold maxLen; omega) hcl henv
  have hne : 1 ≤ xs.length := by
    cases xs with
    | nil => simp at hx
    | cons a l => simp
  have HCN : Hid (Calls Tryz.prog 230 #[.string x, .string ⟨#[46]⟩] w fun e w' => e = .returned (.bool false) ∧ w' = w) := by
    have := Tryz.strings_Contains_one x 46 w
    rw [hno] at this
    exact this
  generalize hgo : sixPieces (xs.map (·.data.toList)) = goal
  rw [hgo] at HCT
  clear hcl henv hs hx hno hgo
  go_enter Tryz.func193, Tryz.ntmps193
  go_wp2_with fail
  refine HCN.out.mono ?_
  rintro e w1 ⟨rfl, hw⟩
  have hw := hw.symm
  subst hw
  go_wp2_with fail
  refine HCT.out.mono ?_
  rintro e w1 ⟨hr, hbw⟩
  obtain ⟨ra, rb, rfl, hr⟩ := Tryz.rowRes_ret hr
  have HR : Hid (Tryz.RowRes w.heap.size goal (.returned (.tuple #[ra, rb])) w1) := hr
  clear hr
  go_wp2
  go_ret2
  exact ⟨HR.out, hbw⟩

set_option maxHeartbeats 4000000 in
set_option maxRecDepth 100000 in
theorem Tryz.readLast_dots (b : Nat) (xs : List ByteArray) (x : ByteArray) (w : World) (hb : b < w.heap.size) (hcap2 : xs.length ≤ 4294967282) (hs : ∀ x ∈ xs, x.size < 4294967281)
    (hcl : ∀ (j : Nat) x, xs[j]? = some x → w.cell? ⟨b, j, none⟩ = some (.string x)) (henv : Tryz.Env w) (hx : xs[xs.length - 1]? = some x) (hno : decide (0 ≤ Lib.indexByte x.data.toList 46) = true) :
    Calls Tryz.prog 193 #[.slice (some ⟨b, 0, none⟩) xs.length xs.length] w fun e w' => Tryz.RowRes w.heap.size (sixJoin (sixPieces ((xs.map (·.data.toList)).dropLast)) (sixDotted x.data.toList)) e w' ∧ Below w.heap.size w w' := by
  have hc := hcl _ x hx
  have hxs := hs x (List.mem_of_getElem? hx)
  have HV : Hid (Tryz.Env w) := henv
  have hne : 1 ≤ xs.length := by
    cases xs with
    | nil => simp at hx
    | cons a l => simp
  have HCN : Hid (Calls Tryz.prog 230 #[.string x, .string ⟨#[46]⟩] w fun e w' => e = .returned (.bool true) ∧ w' = w) := by
    have := Tryz.strings_Contains_one x 46 w
    rw [hno] at this
    exact this
  have HCT : Hid (Calls Tryz.prog 191 #[.slice (some ⟨b, 0, none⟩) (xs.length - 1) xs.length] w fun e w' => Tryz.RowRes w.heap.size (sixPieces ((xs.map (·.data.toList)).dropLast)) e w' ∧ Below w.heap.size w w') := by
    have := Tryz.readPieces_row b xs.length xs.dropLast w hb (by simp) hcap2 (fun x hx => by have := hs x (List.dropLast_subset _ hx); unfold maxLen; omega) (by
      intro j y hj
      refine hcl j y ?_
      rw [List.getElem?_dropLast] at hj
      split at hj
      · exact hj
      · simp at hj) henv
    rw [List.length_dropLast, List.map_dropLast] at this
    exact this
  obtain ⟨i0, hi, hz0, hz1, hz2⟩ := info_parts Tryz.infoU64
  obtain ⟨L, hL⟩ : ∃ L, xs.length = L + 1 := ⟨xs.length - 1, by omega⟩
  rw [hL, Nat.add_sub_cancel] at HCT
  rw [hL, Nat.add_sub_cancel] at hc
  rw [hL]
  have hL2 : L + 1 ≤ 4294967282 := by omega
  have HPL : Hid (∀ ps, sixPieces ((xs.map (·.data.toList)).dropLast) = some ps → ps.length ≤ L) := by
    intro ps hp
    have := sixAcc_len _ _ _ hp
    simp at this
    omega
  generalize hgo : sixPieces ((xs.map (·.data.toList)).dropLast) = goal
  generalize hdo : sixDotted x.data.toList = dots
  have HD : Hid (sixDotted x.data.toList = dots) := hdo
  clear hdo
  rw [hgo] at HCT HPL
  clear hcl henv hs hx hno hgo hne hL hcap2
  go_enter Tryz.func193, Tryz.ntmps193
  go_wp2_with fail
  refine HCN.out.mono ?_
  rintro e w1 ⟨rfl, hw⟩
  have hw := hw.symm
  subst hw
  go_wp2_with fail
  refine HCT.out.mono ?_
  cases goal with
  | none =>
    rintro e w1 ⟨⟨te, ve, rfl⟩, hbw⟩
    go_wp2
    go_ret2
    refine ⟨?_, hbw⟩
    cases dots <;> exact ⟨_, _, rfl⟩
  | some ps =>
    rintro e w1 ⟨⟨v, rfl, hown⟩, hbw⟩
    have hpl := HPL.out ps rfl
    have HB : Hid (Below w.heap.size w w1) := hbw
    have HO : Hid (w1.ownsRow w.heap.size 151 1 v ps.length (ps.map (Value.int .u64))) := hown
    have hc1 : w1.cell? ⟨b, L, none⟩ = some (.string x) := (hbw.cell (by exact hb)).trans hc
    have hz1' := hbw.size
    have HV1 : Hid (Tryz.Env w1) := HV.out.below hbw
    clear hbw hown
    go_wp2_with fail
    refine (Tryz.readDotted_any x _ hxs HV1.out).mono ?_
    have hran := sixDotted_range x.data.toList
    rw [HD.out] at hran ⊢
    cases dots with
    | none =>
      rintro e w2 ⟨⟨te, ve, rfl⟩, hb2⟩
      have HB2 : Hid (Below w.heap.size w w2) := HB.out.trans (hb2.mono (by omega))
      have hc2 : w2.cell? ⟨b, L, none⟩ = some (.string x) := (hb2.cell (by show b < _; omega)).trans hc1
      clear hb2 hran
      go_wp2
      go_quiet (fail)
      go_wp2
      go_ret2
      exact ⟨⟨_, _, rfl⟩, Go.below_drewN HB2.out _⟩
    | some n =>
      rintro e w2 ⟨rfl, hb2⟩
      have hr := hran n rfl
      have HB2 : Hid (Below w.heap.size w w2) := HB.out.trans (hb2.mono (by omega))
      have HA : Hid (bits .and .u64 n 65535 = n % 65536) := and_low16 n hr.1 hr.2
      have HO2 := (own_below HO.out hb2).alloc (.cells #[.int .u64 (n / 65536), .int .u64 (bits .and .u64 n 65535)] 151)
      have hz2' := hb2.size
      clear hb2 hran
      go_wp2_with (at_builtin; refine wpList_append_own _ rfl _ _ 225 rfl w.heap.size 151 i0 (.int .u64 0) 1 8 Tryz.underlying225 hi hz0 hz1 hz2 rfl (by decide) _ _ _ rfl HO2 ⟨w2.heap.size, 0, none⟩ 2 2 [.int .u64 (n / 65536), .int .u64 (bits .and .u64 n 65535)] rfl rfl ?c1 ?c2 ?c3 ?c4 ?c5 ?_)
      case c1 =>
        intro j u hj
        match j, hj with
        | 0, hj => simp at hj; subst hj; exact World.cell?_alloc_new w2 _ 151 0
        | 1, hj => simp at hj; subst hj; exact World.cell?_alloc_new w2 _ 151 1
      case c2 => intro u hu; simp at hu; rcases hu with rfl | rfl <;> rfl
      case c3 => unfold maxLen; omega
      case c4 => omega
      case c5 => simp; omega
      intro v' w3 hown' hgrow _
      have HOW : Hid (w3.ownsRow w.heap.size 151 1 v' (ps.length + 2) (ps.map (Value.int .u64) ++ [.int .u64 (n / 65536), .int .u64 (bits .and .u64 n 65535)])) := hown'
      have HBB : Hid (Below w.heap.size w w3) := (HB2.out.alloc (by omega) _).grown hgrow (by simp; omega) (fun k hk => (HO2.lt k hk).1)
      clear hown' hgrow HO2
      go_wp2
      go_ret2
      refine ⟨⟨_, rfl, ?_⟩, HBB.out⟩
      have := HOW.out
      rw [HA.out] at this
      rw [List.length_append, List.map_append]
      exact this

theorem Tryz.readLast_any (B : Nat) (ls : List (List UInt8)) (v : Value) (w : World) (hv : Tryz.PieceRow B w ls v) (henv : Tryz.Env w) :
    Calls Tryz.prog 193 #[v] w fun e w' => Tryz.RowRes w.heap.size (sixLast ls) e w' ∧ Below w.heap.size w w' := by
  rcases hv with ⟨rfl, rfl⟩ | ⟨xs, rfl, hne, hlen, rfl, hcl, hB, hs⟩
  · refine (Tryz.readLast_nil w).mono ?_
    rintro e w' ⟨rfl, rfl⟩
    exact ⟨⟨_, rfl, World.ownsRow_nil _ _ _ _⟩, Below.refl _ _⟩
  · have hpos : 0 < xs.length := List.length_pos_iff.2 hne
    obtain ⟨x, hx⟩ : ∃ x, xs[xs.length - 1]? = some x := ⟨xs[xs.length - 1]'(by omega), by simp⟩
    have hl : (xs.map (·.data.toList)).getLast? = some x.data.toList := by
      rw [List.getLast?_map, List.getLast?_eq_getElem?, hx]; rfl
    unfold sixLast
    rw [hl]
    by_cases hno : 0 ≤ Lib.indexByte x.data.toList 46
    · simp only [hno, if_true]
      exact Tryz.readLast_dots B xs x w hB hlen hs hcl henv hx (by simpa using hno)
    · simp only [hno, if_false]
      exact Tryz.readLast_plain B xs x w hB hlen hs hcl henv hx (by simpa using hno)

theorem Tryz.readPieces_any (B : Nat) (ls : List (List UInt8)) (v : Value) (w : World) (hv : Tryz.PieceRow B w ls v) (henv : Tryz.Env w) :
    Calls Tryz.prog 191 #[v] w fun e w' => Tryz.RowRes w.heap.size (sixPieces ls) e w' ∧ Below w.heap.size w w' := by
  rcases hv with ⟨rfl, rfl⟩ | ⟨xs, rfl, hne, hlen, rfl, hcl, hB, hs⟩
  · refine (Tryz.readPieces_nil w).mono ?_
    rintro e w' ⟨rfl, rfl⟩
    exact ⟨⟨_, rfl, World.ownsRow_nil _ _ _ _⟩, Below.refl _ _⟩
  · exact Tryz.readPieces_row B xs.length xs w hB (Nat.le_refl _) hlen (fun x hx => by have := hs x hx; unfold maxLen; omega) hcl henv
end Go.Proofs
