/-
  The walk of moorkeep.Fours: it answers true for every five numbers.
-/
import Derived.Test.YtkcnageeamappaaGreatDoorFNum
namespace Go.Proofs
open Go.RowKit Go.Moor

theorem num_len (r n : Nat) : (numTxt r n).length ≤ 34 := by
  have h16 := digs_len 16 31 n
  have h8 := digs_len 8 31 n
  have h10 := digs_len 10 31 n
  match r with
  | 0 => show (48 :: 120 :: digsF 16 31 n).length ≤ 34; simp; omega
  | 1 => show (48 :: digsF 8 31 n).length ≤ 34; simp; omega
  | r + 2 => show (digsF 10 31 n).length ≤ 34; omega

def fiveTexts (ra rb rc rd re rf rg p : Nat) : List ByteArray :=
  [⟨(joinDots [numTxt ra (p / 16777216), numTxt rb (p / 65536 % 256), numTxt rc (p / 256 % 256), numTxt rd (p % 256)]).toArray⟩,
   ⟨(joinDots [numTxt ra (p / 16777216), numTxt rb (p / 65536 % 256), numTxt re (p % 65536)]).toArray⟩,
   ⟨(joinDots [numTxt ra (p / 16777216), numTxt rf (p % 16777216)]).toArray⟩,
   ⟨(joinDots [numTxt rg p]).toArray⟩,
   ⟨(48 :: 88 :: (digsF 16 31 p ++ [46])).toArray⟩]

theorem five_good (ra rb rc rd re rf rg p : Nat) (hp : p < 4294967296) (q : Nat) (x : ByteArray) (hx : (fiveTexts ra rb rc rd re rf rg p)[q]? = some x) :
    x.size ≤ 2000 ∧ Lib.hasPrefix x.data.toList (⟨#[91]⟩ : ByteArray).data.toList = false ∧ hostSpecial (unesc x.data.toList) = some (tell4 p) := by
  have l1 := num_len ra (p / 16777216)
  have l2 := num_len rb (p / 65536 % 256)
  have l3 := num_len rc (p / 256 % 256)
  have l4 := num_len rd (p % 256)
  have l5 := num_len re (p % 65536)
  have l6 := num_len rf (p % 16777216)
  have l7 := num_len rg p
  have l8 := digs_len 16 31 p
  have ok : ∀ r m, m < 4294967296 → ∀ c ∈ numTxt r m, okT c = true := fun r m hm => num_ok r m hm
  match q, hx with
  | 0, hx =>
    cases hx
    refine ⟨?_, nopfx _ (joinDots_91 _ ?_), four_labels ra rb rc rd p hp⟩
    · rw [size_mk]; simp [joinDots]; omega
    · intro x hx
      simp only [List.mem_cons, List.not_mem_nil, or_false] at hx
      rcases hx with rfl | rfl | rfl | rfl <;> exact ok _ _ (by omega)
  | 1, hx =>
    cases hx
    refine ⟨?_, nopfx _ (joinDots_91 _ ?_), three_labels ra rb re p hp⟩
    · rw [size_mk]; simp [joinDots]; omega
    · intro x hx
      simp only [List.mem_cons, List.not_mem_nil, or_false] at hx
      rcases hx with rfl | rfl | rfl <;> exact ok _ _ (by omega)
  | 2, hx =>
    cases hx
    refine ⟨?_, nopfx _ (joinDots_91 _ ?_), two_labels ra rf p hp⟩
    · rw [size_mk]; simp [joinDots]; omega
    · intro x hx
      simp only [List.mem_cons, List.not_mem_nil, or_false] at hx
      rcases hx with rfl | rfl <;> exact ok _ _ (by omega)
  | 3, hx =>
    cases hx
    refine ⟨?_, nopfx _ (joinDots_91 _ ?_), one_label rg p hp⟩
    · rw [size_mk]; simp [joinDots]; omega
    · intro x hx
      simp only [List.mem_cons, List.not_mem_nil, or_false] at hx
      subst hx
      exact ok _ _ hp
  | 4, hx =>
    cases hx
    refine ⟨?_, rfl, cap_label p hp⟩
    rw [size_mk]; simp; omega
  | q + 5, hx => simp [fiveTexts] at hx

theorem cell_arr (w : World) (c : Array Value) (t : TypeId) (k : Nat) : (w.alloc (.cells c t)).cell? ⟨w.heap.size, k, none⟩ = c[k]? := by
  have e : (w.alloc (.cells c t)).heap[w.heap.size]? = some (.cells c t) := heap_alloc_new w _
  simp only [World.cell?, e]
  rfl

theorem bad_cells : ∀ k : Fin 12, (#[.string ⟨#[49, 46, 50, 46, 51, 46, 52, 46, 53]⟩, .string ⟨#[50, 53, 54, 46, 49, 46, 49, 46, 49]⟩, .string ⟨#[49, 46, 50, 53, 54]⟩, .string ⟨#[49, 46, 50, 46, 54, 53, 53, 51, 54]⟩, .string ⟨#[49, 46, 49, 54, 55, 55, 55, 50, 49, 54]⟩, .string ⟨#[52, 50, 57, 52, 57, 54, 55, 50, 57, 54]⟩, .string ⟨#[48, 57]⟩, .string ⟨#[48, 120, 49, 103, 46, 49]⟩, .string ⟨#[49, 46, 46, 50]⟩, .string ⟨#[49, 46, 50, 46, 51, 46, 48, 120]⟩, .string ⟨#[48, 56, 46, 49]⟩, .string ⟨#[120, 46, 49, 46, 49, 46, 49, 46, 50, 53, 54]⟩] : Array Value)[k.val]? = some (.string ⟨(badTexts.getD k.val []).toArray⟩)
  | ⟨0, _⟩ => rfl
  | ⟨1, _⟩ => rfl
  | ⟨2, _⟩ => rfl
  | ⟨3, _⟩ => rfl
  | ⟨4, _⟩ => rfl
  | ⟨5, _⟩ => rfl
  | ⟨6, _⟩ => rfl
  | ⟨7, _⟩ => rfl
  | ⟨8, _⟩ => rfl
  | ⟨9, _⟩ => rfl
  | ⟨10, _⟩ => rfl
  | ⟨11, _⟩ => rfl

set_option maxHeartbeats 8000000 in
theorem Tryz.fours_any (n how one two three : Int) (w : World) (henv : Tryz.Env w)
    (hn0 : -(2 ^ 63) ≤ n) (hn1 : n < 2 ^ 63) (hh0 : -(2 ^ 63) ≤ how) (hh1 : how < 2 ^ 63) (ho0 : -(2 ^ 63) ≤ one) (ho1 : one < 2 ^ 63) (ht0 : -(2 ^ 63) ≤ two) (ht1 : two < 2 ^ 63) (hr0 : -(2 ^ 63) ≤ three) (hr1 : three < 2 ^ 63) :
    Calls Tryz.prog 4 #[.int .i64 n, .int .i64 how, .int .i64 one, .int .i64 two, .int .i64 three] w fun e w' => e = .returned (.bool true) ∧ Below w.heap.size w w' := by
  have HV : Hid (Tryz.Env w) := henv
  clear henv
  go_enter Tryz.func4, Tryz.ntmps4
  go_wp2_with fail
  refine (Tryz.pickn_any n 4294967296 _ hn0 hn1 (by omega) (by omega)).mono ?_
  rintro e w1 ⟨⟨p, hp, rfl⟩, rfl⟩
  have hp2 : p < 4294967296 := by omega
  have t0 : ((p : Int) / 16777216).toNat = p / 16777216 := by omega
  have t1 : ((p : Int) / 65536 % 256).toNat = p / 65536 % 256 := by omega
  have t2 : ((p : Int) / 256 % 256).toNat = p / 256 % 256 := by omega
  have t3 : ((p : Int) % 256).toNat = p % 256 := by omega
  have t4 : ((p : Int) % 65536).toNat = p % 65536 := by omega
  have t5 : ((p : Int) % 16777216).toNat = p % 16777216 := by omega
  go_wp2_with fail
  refine (Tryz.dotted_any p _ hp2).mono ?_
  rintro e w2 ⟨rfl, n1, rfl⟩
  go_wp2_with fail
  refine (Tryz.number_any _ how _ ?_ ?_ hh0 hh1).mono ?_
  · omega
  · omega
  rintro e w2 ⟨⟨ra, rfl⟩, n2, rfl⟩
  have la := num_len ra (p / 16777216)
  go_wp2_with fail
  refine (Tryz.number_any _ one _ ?_ ?_ ho0 ho1).mono ?_
  · omega
  · omega
  rintro e w2 ⟨⟨rb, rfl⟩, n3, rfl⟩
  have lb := num_len rb (p / 65536 % 256)
  go_wp2_with fail
  refine (Tryz.number_any _ two _ ?_ ?_ ht0 ht1).mono ?_
  · omega
  · omega
  rintro e w2 ⟨⟨rc, rfl⟩, n4, rfl⟩
  have lc := num_len rc (p / 256 % 256)
  go_wp2_with fail
  refine (Tryz.number_any _ three _ ?_ ?_ hr0 hr1).mono ?_
  · omega
  · omega
  rintro e w2 ⟨⟨rd, rfl⟩, n5, rfl⟩
  have ld := num_len rd (p % 256)
  go_wp2_with fail
  refine (Tryz.number_any _ three _ ?_ ?_ hr0 hr1).mono ?_
  · omega
  · omega
  rintro e w2 ⟨⟨re, rfl⟩, n6, rfl⟩
  have le := num_len re (p % 65536)
  go_wp2_with fail
  refine (Tryz.number_any _ three _ ?_ ?_ hr0 hr1).mono ?_
  · omega
  · omega
  rintro e w2 ⟨⟨rf, rfl⟩, n7, rfl⟩
  have lf := num_len rf (p % 16777216)
  go_wp2_with fail
  refine (Tryz.number_any _ three _ ?_ ?_ hr0 hr1).mono ?_
  · omega
  · omega
  rintro e w2 ⟨⟨rg, rfl⟩, n8, rfl⟩
  have lg := num_len rg p
  go_wp2_with fail
  refine (Tryz.digits16_int _ _ ?_ ?_).mono ?_
  · omega
  · omega
  rintro e w2 ⟨rfl, n9, rfl⟩
  have lh := digs_len 16 31 p
  go_wp2_with fail
  clear la lb lc ld le lf lg lh t0 t1 t2 t3 t4 t5 hp
  go_loopw [16] (fun i wr => ∃ q : Nat, q ≤ 5 ∧ i = .int .i64 q ∧ (∀ (j : Nat) x, (fiveTexts ra rb rc rd re rf rg p)[j]? = some x → wr.cell? ⟨w1.heap.size, j, none⟩ = some (.string x)) ∧ Below w1.heap.size w1 wr ∧ w1.heap.size < wr.heap.size) (fun i _ => 5 - (intOf i).toNat)
  case atStart =>
    refine ⟨0, by omega, rfl, ?_, (Go.below_drewN (Below.refl _ _) _).alloc (Nat.le_refl _) _, by simp⟩
    intro j x hx
    have hc := fun k => cell_arr (w1.drewN (n1 + n2 + n3 + n4 + n5 + n6 + n7 + n8 + n9)) #[.string (((((((⟨(numTxt ra (p / 16777216)).toArray⟩ ++ ⟨[46].toArray⟩) ++ ⟨(numTxt rb (p / 65536 % 256)).toArray⟩) ++ ⟨[46].toArray⟩) ++ ⟨(numTxt rc (p / 256 % 256)).toArray⟩) ++ ⟨[46].toArray⟩) ++ ⟨(numTxt rd (p % 256)).toArray⟩)), .string (((((⟨(numTxt ra (p / 16777216)).toArray⟩ ++ ⟨[46].toArray⟩) ++ ⟨(numTxt rb (p / 65536 % 256)).toArray⟩) ++ ⟨[46].toArray⟩) ++ ⟨(numTxt re (p % 65536)).toArray⟩)), .string ((⟨(numTxt ra (p / 16777216)).toArray⟩ ++ ⟨[46].toArray⟩) ++ ⟨(numTxt rf (p % 16777216)).toArray⟩), .string ⟨(numTxt rg p).toArray⟩, .string ((⟨[48, 88].toArray⟩ ++ ⟨(digsF 16 31 p).toArray⟩) ++ ⟨[46].toArray⟩)] 9 k
    refine (hc j).trans ?_
    rw [app4, app3, app2, app_mk, app_mk]
    match j, hx with
    | 0, hx => cases hx; rfl
    | 1, hx => cases hx; rfl
    | 2, hx => cases hx; rfl
    | 3, hx => cases hx; rfl
    | 4, hx => cases hx; rfl
    | j + 5, hx => simp [fiveTexts] at hx
  case round =>
    obtain ⟨q, hq, rfl, hcl, hb, hz⟩ := hrel
    have HC : Hid (∀ (j : Nat) x, (fiveTexts ra rb rc rd re rf rg p)[j]? = some x → wr.cell? ⟨w1.heap.size, j, none⟩ = some (.string x)) := hcl
    have HVr : Hid (Tryz.Env wr) := HV.out.below hb
    clear hcl
    by_cases hlt : q < 5
    · obtain ⟨x, hx⟩ : ∃ x, (fiveTexts ra rb rc rd re rf rg p)[q]? = some x := ⟨_, List.getElem?_eq_getElem (show q < (fiveTexts ra rb rc rd re rf rg p).length from hlt)⟩
      have hc := HC.out q x hx
      obtain ⟨x1, x2, x3⟩ := five_good ra rb rc rd re rf rg p hp2 q x hx
      have HH : Hid (Calls Tryz.prog 18 #[.string x, .bool true] wr fun e w' => e = .returned (.tuple #[.string ⟨(tell4 p).toArray⟩, .int .i64 0]) ∧ Below wr.heap.size wr w') := by
        have := Tryz.Host_special x wr HVr.out x1 x2
        rw [x3] at this
        exact this
      clear hx x1 x2 x3
      go_wp2_with fail
      refine HH.out.mono ?_
      rintro e W2 ⟨rfl, b2⟩
      go_wp2
      go_roundw
      case rel =>
        refine ⟨q + 1, by omega, by go_num, ?_, hb.trans (b2.mono (by omega)), Nat.lt_of_lt_of_le hz b2.size⟩
        intro j y hy
        rw [b2.cell (p := ⟨w1.heap.size, j, none⟩) hz]
        exact HC.out j y hy
      case measure => simp [intOf]; omega
    · have hq5 : 5 ≤ q := by omega
      clear HC hlt hq
      go_wp2_with fail
      refine (Tryz.pickn_any how 12 _ hh0 hh1 (by omega) (by omega)).mono ?_
      rintro e w3 ⟨⟨k, hk, rfl⟩, hw3⟩
      have hk12 : k < 12 := by omega
      have hcell : w3.cell? ⟨wr.heap.size, k, none⟩ = some (.string ⟨(badTexts.getD k []).toArray⟩) := by
        rw [hw3, cell_arr]
        exact bad_cells ⟨k, hk12⟩
      have hb3 : Below wr.heap.size wr w3 := by rw [hw3]; exact (Below.refl _ _).alloc (Nat.le_refl _) _
      have hz3 : wr.heap.size < w3.heap.size := by rw [hw3]; simp
      clear hw3
      have HV3 : Hid (Tryz.Env w3) := HVr.out.below hb3
      have HH : Hid (Calls Tryz.prog 18 #[.string ⟨(badTexts.getD k []).toArray⟩, .bool true] w3 fun e w' => e = HostRes (badWant k) ∧ Below w3.heap.size w3 w') := by
        have := Tryz.Host_special ⟨(badTexts.getD k []).toArray⟩ w3 HV3.out (by rw [size_mk]; have := bad_len ⟨k, hk12⟩; simp only at this; omega) (bad_nopfx ⟨k, hk12⟩)
        rw [show hostSpecial (unesc (⟨(badTexts.getD k []).toArray⟩ : ByteArray).data.toList) = badWant k from bad_all k hk12] at this
        exact this
      have hfin : ∀ W4, Below w3.heap.size w3 W4 → Below w1.heap.size w1 W4 := fun W4 h => hb.trans ((hb3.trans (h.mono (by omega))).mono (by omega))
      have HFN : Hid (∀ W4, Below w3.heap.size w3 W4 → Below w1.heap.size w1 W4) := hfin
      clear hfin
      by_cases h2 : k = 2
      · subst h2
        go_wp2_with fail
        refine HH.out.mono ?_
        rintro e W4 ⟨he, b4⟩
        have he2 : e = .returned (.tuple #[.string ⟨#[49, 46, 48, 46, 49, 46, 48]⟩, .int .i64 0]) := he
        subst he2
        go_wp2
        go_ret
        exact ⟨rfl, HFN.out _ b4⟩
      · by_cases h9 : k = 9
        · subst h9
          go_wp2_with fail
          refine HH.out.mono ?_
          rintro e W4 ⟨he, b4⟩
          have he2 : e = .returned (.tuple #[.string ⟨#[49, 46, 50, 46, 51, 46, 48]⟩, .int .i64 0]) := he
          subst he2
          go_wp2
          go_ret
          exact ⟨rfl, HFN.out _ b4⟩
        · have HW : Hid (badWant k = none) := by show _ = _; unfold badWant; rw [if_neg h2, if_neg h9]
          have h2' : ((k : Int) == 2) = false := beq_eq_false_iff_ne.2 (by omega)
          have h9' : ((k : Int) == 9) = false := beq_eq_false_iff_ne.2 (by omega)
          go_wp2_with fail
          refine HH.out.mono ?_
          rw [HW.out]
          rintro e W4 ⟨he, b4⟩
          have he2 : e = .returned (.tuple #[.string ⟨#[]⟩, .int .i64 4]) := he
          subst he2
          go_wp2
          go_ret
          exact ⟨rfl, HFN.out _ b4⟩
end Go.Proofs
