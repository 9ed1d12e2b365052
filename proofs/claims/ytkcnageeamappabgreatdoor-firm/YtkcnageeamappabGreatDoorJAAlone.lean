/-
  What set of package address does.
-/
import Derived.Test.YtkcnageeamappabGreatDoorJAWith4
import Derived.Test.YtkcnageeamappabGreatDoorJAParse
namespace Go.Proofs
open Go.RowKit Go.Moor

theorem mark_cells (c : UInt8) (s : Int) (v : Bs) : (markOpt c s v).isSome = !v.isEmpty ∧ (markOpt c s v).getD [] = esc s (trimMark c v) := by
  cases v with
  | nil => exact ⟨rfl, rfl⟩
  | cons b l => exact ⟨rfl, rfl⟩
theorem Tryz.escaped_mark (c : UInt8) (set : Int) (v : Bs) (w : World) (hs : v.length ≤ 100000) (henv : Tryz.Env w) :
    Calls Tryz.prog 55 #[.agg #[.bool (!v.isEmpty), .string ⟨(trimMark c v).toArray⟩], .int .i64 set] w fun e w' => e = .returned (.agg #[.bool (markOpt c set v).isSome, .string ⟨((markOpt c set v).getD []).toArray⟩]) ∧ Below w.heap.size w w' := by
  have h := Tryz.escaped_any (if v = [] then none else some (trimMark c v)) set w (by
    split
    · simp
    · have := trimMark_len c v
      simp only [Option.getD_some]
      omega) henv
  cases v with
  | nil => exact h
  | cons b l => exact h

theorem Tryz.setRes_ret {k : Nat} {o : Except Int Adr} {e : Ending} {w' : World} (h : Tryz.SetRes k o e w') : ∃ x, e = .returned x := by
  cases o with
  | error n => obtain ⟨x, y, te, ve, rfl⟩ := h; exact ⟨_, rfl⟩
  | ok b => exact ⟨_, h.1⟩

theorem set2_cell (w : World) (k : Nat) (x y : Value) : ((w.setCell ⟨k, 9, none⟩ x).setCell ⟨k, 10, none⟩ y).cell? ⟨k, 0, none⟩ = w.cell? ⟨k, 0, none⟩ := by
  have h1 : (⟨k, 10, none⟩ : Go.Addr) ≠ ⟨k, 0, none⟩ := by simp
  have h2 : (⟨k, 9, none⟩ : Go.Addr) ≠ ⟨k, 0, none⟩ := by simp
  refine Eq.trans (b := (w.setCell ⟨k, 9, none⟩ x).cell? ⟨k, 0, none⟩) ?_ ?_
  · first | exact World.cell?_setCell_other _ _ _ _ h1 | exact World.cell?_setCell_other _ _ _ h1 | exact World.cell?_setCell_other _ _ h1
  · first | exact World.cell?_setCell_other _ _ _ _ h2 | exact World.cell?_setCell_other _ _ _ h2 | exact World.cell?_setCell_other _ _ h2

set_option maxHeartbeats 4000000 in
theorem Tryz.set_any (k : Nat) (a : Adr) (v : Value) (p : Int) (t : Bs) (w : World) (ht : t.length ≤ 100000) (hp1 : -9223372036854775808 ≤ p) (hp2 : p ≤ 9223372036854775807) (hk : w.heap[k]? = some (.cells (adrCells a v) 52 (0, 0))) (hv : SegRow w v a.way.segs) (henv : Tryz.Env3 w) :
    Calls Tryz.prog 32 #[.pointer (some ⟨k, 0, none⟩), .int .i64 p, .string ⟨t.toArray⟩] w fun e w' => But k w w' ∧ Tryz.SetRes k (setPart hostTell a p t) e w' := by
  have hkz : k < w.heap.size := (Array.getElem?_eq_some_iff.1 hk).1
  have hgz := henv.env2.env.size
  have H1 : Hid (Calls Tryz.prog 50 #[.pointer (some ⟨k, 0, none⟩), .string ⟨t.toArray⟩] w fun e w' => But k w w' ∧ Tryz.SetRes k (setScheme a t) e w') := Tryz.setScheme_any k a v t w ht hk hv henv
  have H2 : Hid (p = 2 ∨ p = 3 ∨ p = 5 → Calls Tryz.prog 51 #[.pointer (some ⟨k, 0, none⟩), .int .i64 p, .string ⟨t.toArray⟩] w fun e w' => But k w w' ∧ Tryz.SetRes k (setBeside a p t) e w') := fun h => Tryz.setBeside_any k a v p t w (by omega) h hk hv henv
  have H4 : Hid (Calls Tryz.prog 52 #[.pointer (some ⟨k, 0, none⟩), .string ⟨t.toArray⟩] w fun e w' => But k w w' ∧ Tryz.SetRes k (setHost hostTell a t) e w') := Tryz.setHost_any k a v t w ht hk hv henv
  have H6 : Hid (Calls Tryz.prog 53 #[.pointer (some ⟨k, 0, none⟩), .string ⟨t.toArray⟩] w fun e w' => But k w w' ∧ Tryz.SetRes k (setPath a t) e w') := Tryz.setPath_any k a v t w ht hk henv
  unfold setPart
  by_cases h1 : p = 1
  · rw [if_pos h1]
    subst h1
    generalize setScheme a t = o at *
    generalize (⟨t.toArray⟩ : ByteArray) = tb at *
    clear H2 H4 H6 hk hv henv ht hp1 hp2
    go_enter Tryz.func32, Tryz.ntmps32
    go_wp2_with fail
    refine H1.out.mono ?_
    rintro e w1 ⟨hb, hr⟩
    obtain ⟨x, rfl⟩ := Tryz.setRes_ret hr
    have HB : Hid (But k w w1) := hb
    have HR : Hid (Tryz.SetRes k o (.returned x) w1) := hr
    clear hb hr
    go_wp2
    go_ret
    exact ⟨HB.out, HR.out⟩
  · rw [if_neg h1]
    by_cases h2 : p = 2 ∨ p = 3 ∨ p = 5
    · rw [if_pos h2]
      have H2' : Hid _ := H2.out h2
      generalize setBeside a p t = o at *
      generalize (⟨t.toArray⟩ : ByteArray) = tb at *
      clear H1 H2 H4 H6 hk hv henv ht hp1 hp2
      rcases h2 with rfl | rfl | rfl
      all_goals
        go_enter Tryz.func32, Tryz.ntmps32
        go_wp2_with fail
        refine Calls.mono H2'.out ?_
        rintro e w1 ⟨hb, hr⟩
        obtain ⟨x, rfl⟩ := Tryz.setRes_ret hr
        have HB : Hid (But k w w1) := hb
        have HR : Hid (Tryz.SetRes k o (.returned x) w1) := hr
        clear hb hr
        go_wp2
        go_ret
        exact ⟨HB.out, HR.out⟩
    · rw [if_neg h2]
      have n2 : ¬ p = 2 := fun h => h2 (Or.inl h)
      have n3 : ¬ p = 3 := fun h => h2 (Or.inr (Or.inl h))
      have n5 : ¬ p = 5 := fun h => h2 (Or.inr (Or.inr h))
      by_cases h4 : p = 4
      · rw [if_pos h4]
        subst h4
        generalize setHost hostTell a t = o at *
        generalize (⟨t.toArray⟩ : ByteArray) = tb at *
        clear H1 H2 H6 hk hv henv ht hp1 hp2 h1 h2 n2 n3 n5
        go_enter Tryz.func32, Tryz.ntmps32
        go_wp2_with fail
        refine H4.out.mono ?_
        rintro e w1 ⟨hb, hr⟩
        obtain ⟨x, rfl⟩ := Tryz.setRes_ret hr
        have HB : Hid (But k w w1) := hb
        have HR : Hid (Tryz.SetRes k o (.returned x) w1) := hr
        clear hb hr
        go_wp2
        go_ret
        exact ⟨HB.out, HR.out⟩
      · rw [if_neg h4]
        by_cases h6 : p = 6
        · rw [if_pos h6]
          subst h6
          generalize setPath a t = o at *
          generalize (⟨t.toArray⟩ : ByteArray) = tb at *
          clear H1 H2 H4 hk hv henv ht hp1 hp2 h1 h2 n2 n3 n5 h4
          go_enter Tryz.func32, Tryz.ntmps32
          go_wp2_with fail
          refine H6.out.mono ?_
          rintro e w1 ⟨hb, hr⟩
          obtain ⟨x, rfl⟩ := Tryz.setRes_ret hr
          have HB : Hid (But k w w1) := hb
          have HR : Hid (Tryz.SetRes k o (.returned x) w1) := hr
          clear hb hr
          go_wp2
          go_ret
          exact ⟨HB.out, HR.out⟩
        · rw [if_neg h6]
          clear H1 H2 H4 H6
          have HK : Hid (∀ w1, Below w.heap.size w w1 → w1.heap[k]? = some (.cells (adrCells a v) 52 (0, 0))) := fun w1 h1 => (h1.block k hkz).trans hk
          have HS : Hid (∀ w1, But k w w1 → SegRow w1 v a.way.segs) := fun w1 h1 => segRow_but hv h1 (tagged_off hv.2 hk (by decide))
          have HBM : Hid (∀ (c : UInt8) w1, Below w.heap.size w w1 → Calls Tryz.prog 54 #[.string ⟨t.toArray⟩, .string ⟨#[c]⟩] w1 fun e w' => e = .returned (.agg #[.bool (!t.isEmpty), .string ⟨(trimMark c t).toArray⟩]) ∧ Below w.heap.size w w') := by
            intro c w1 h1
            refine (Tryz.behindMark_any t c w1).mono ?_
            rintro e w' ⟨rfl, hb⟩
            exact ⟨rfl, h1.trans (hb.mono h1.size)⟩
          have HES : Hid (∀ (c : UInt8) (s : Int) w1, Below w.heap.size w w1 → Calls Tryz.prog 55 #[.agg #[.bool (!t.isEmpty), .string ⟨(trimMark c t).toArray⟩], .int .i64 s] w1 fun e w' => e = .returned (.agg #[.bool (markOpt c s t).isSome, .string ⟨((markOpt c s t).getD []).toArray⟩]) ∧ Below w.heap.size w w') := by
            intro c s w1 h1
            refine (Tryz.escaped_mark c s t w1 ht (henv.env2.below h1).env).mono ?_
            rintro e w' ⟨rfl, hb⟩
            exact ⟨rfl, h1.trans (hb.mono h1.size)⟩
          by_cases h7 : p = 7
          · rw [if_pos h7]
            subst h7
            have HQ : Hid (∀ W, Calls Tryz.prog 56 #[.string ⟨a.scheme.toArray⟩] W fun e w' => e = .returned (.int .i64 (querySet a.scheme)) ∧ w' = W) := fun W => Tryz.querySet_any ⟨a.scheme.toArray⟩ W
            have HKC : Hid (∀ w1, Below w.heap.size w w1 → w1.cell? ⟨k, 0, none⟩ = some (.string ⟨a.scheme.toArray⟩) ∧ w1.cell? ⟨k, 9, none⟩ = some (.bool a.query.isSome) ∧ w1.cell? ⟨k, 10, none⟩ = some (.string ⟨(a.query.getD []).toArray⟩) ∧ w1.frozen? ⟨k, 9, none⟩ = false ∧ w1.frozen? ⟨k, 10, none⟩ = false) := fun w1 h1 => ⟨cell_heap (HK.out w1 h1) 0, cell_heap (HK.out w1 h1) 9, cell_heap (HK.out w1 h1) 10, frozen_heap (HK.out w1 h1) 9, frozen_heap (HK.out w1 h1) 10⟩
            have HBM1 : Hid _ := HBM.out 63
            have HES1 : Hid _ := HES.out 63 (querySet a.scheme)
            have HKX : Hid (∀ w1, Below w.heap.size w w1 → ((w1.setCell ⟨k, 9, none⟩ (.bool (markOpt 63 (querySet a.scheme) t).isSome)).setCell ⟨k, 10, none⟩ (.string ⟨((markOpt 63 (querySet a.scheme) t).getD []).toArray⟩)).heap[k]? = some (.cells (adrCells { a with query := markOpt 63 (querySet a.scheme) t } v) 52 (0, 0))) := fun w1 h1 => heap_setCell_same _ k 10 _ 52 _ (heap_setCell_same w1 k 9 _ 52 _ (HK.out w1 h1))
            generalize markOpt 63 (querySet a.scheme) t = mo at *
            generalize querySet a.scheme = qs at *
            generalize (⟨(trimMark 63 t).toArray⟩ : ByteArray) = tm at *
            generalize (⟨t.toArray⟩ : ByteArray) = tb at *
            generalize t.isEmpty = qe at *
            generalize (⟨a.scheme.toArray⟩ : ByteArray) = sb at *
            obtain ⟨d0, _, _, _, _⟩ := HKC.out w (Below.refl _ _)
            clear HK HBM HES hk hv henv ht hp1 hp2 h1 h2 n2 n3 n5 h4 h6
            go_enter Tryz.func32, Tryz.ntmps32
            go_upto_region 14 with fail
            go_region_held3 (fun w' => w'.cell? ⟨k, 0, none⟩ = some (.string sb)) (first | (go_keep; done) | (refine (set2_cell _ k _ _).trans ?_; assumption)) (first | (go_at_call 54; refine Calls.mono (HBM1.out _ (by first | exact Below.refl _ _ | exact same_heap rfl rfl rfl rfl)) ?_; rintro e w1 ⟨rfl, b1⟩; have HB1 : Hid (Below w.heap.size w w1) := b1; clear b1; obtain ⟨d0', _, _, _, _⟩ := HKC.out w1 HB1.out) | (go_at_call 56; refine Calls.mono (HQ.out _) ?_; rintro e W0 ⟨rfl, hw0⟩; have hw0 := hw0.symm; subst hw0) | (go_at_call 55; refine Calls.mono (HES1.out _ HB1.out) ?_; rintro e w2 ⟨rfl, b2⟩; have HB2 : Hid (Below w.heap.size w w2) := b2; clear b2; obtain ⟨d0'', d9, d10, f9, f10⟩ := HKC.out w2 HB2.out))
            all_goals
              go_wp2
              go_ret
              have hbut : But k w ((w2.setCell ⟨k, 9, none⟩ (.bool mo.isSome)).setCell ⟨k, 10, none⟩ (.string ⟨(mo.getD []).toArray⟩)) := ((But.of_below HB2.out).setCell 9 _).setCell 10 _
              exact ⟨hbut, rfl, v, HKX.out w2 HB2.out, HS.out _ hbut⟩
          · rw [if_neg h7]
            by_cases h8 : p = 8
            · rw [if_pos h8]
              subst h8
              have HKC : Hid (∀ w1, Below w.heap.size w w1 → w1.cell? ⟨k, 11, none⟩ = some (.bool a.frag.isSome) ∧ w1.cell? ⟨k, 12, none⟩ = some (.string ⟨(a.frag.getD []).toArray⟩) ∧ w1.frozen? ⟨k, 11, none⟩ = false ∧ w1.frozen? ⟨k, 12, none⟩ = false) := fun w1 h1 => ⟨cell_heap (HK.out w1 h1) 11, cell_heap (HK.out w1 h1) 12, frozen_heap (HK.out w1 h1) 11, frozen_heap (HK.out w1 h1) 12⟩
              have HBM1 : Hid _ := HBM.out 35
              have HES1 : Hid _ := HES.out 35 1
              have HKX : Hid (∀ w1, Below w.heap.size w w1 → ((w1.setCell ⟨k, 11, none⟩ (.bool (markOpt 35 1 t).isSome)).setCell ⟨k, 12, none⟩ (.string ⟨((markOpt 35 1 t).getD []).toArray⟩)).heap[k]? = some (.cells (adrCells { a with frag := markOpt 35 1 t } v) 52 (0, 0))) := fun w1 h1 => heap_setCell_same _ k 12 _ 52 _ (heap_setCell_same w1 k 11 _ 52 _ (HK.out w1 h1))
              generalize markOpt 35 1 t = mo at *
              generalize (⟨(trimMark 35 t).toArray⟩ : ByteArray) = tm at *
              generalize (⟨t.toArray⟩ : ByteArray) = tb at *
              generalize t.isEmpty = qe at *
              clear HK HBM HES hk hv henv ht hp1 hp2 h1 h2 n2 n3 n5 h4 h6 h7
              go_enter Tryz.func32, Tryz.ntmps32
              go_wp2_with fail
              refine Calls.mono (HBM1.out w (Below.refl _ _)) ?_
              rintro e w1 ⟨rfl, b1⟩
              go_wp2_with fail
              refine Calls.mono (HES1.out w1 b1) ?_
              rintro e w2 ⟨rfl, b2⟩
              have HB2 : Hid (Below w.heap.size w w2) := b2
              obtain ⟨d11, d12, f11, f12⟩ := HKC.out w2 b2
              clear b1 b2
              go_wp2
              go_ret
              have hbut : But k w ((w2.setCell ⟨k, 11, none⟩ (.bool mo.isSome)).setCell ⟨k, 12, none⟩ (.string ⟨(mo.getD []).toArray⟩)) := ((But.of_below HB2.out).setCell 11 _).setCell 12 _
              exact ⟨hbut, rfl, v, HKX.out w2 HB2.out, HS.out _ hbut⟩
            · rw [if_neg h8]
              have HI : Hid (∀ w1, Below w.heap.size w w1 → Calls Tryz.prog 46 #[.int .i64 p] w1 fun e w' => (∃ x : ByteArray, e = .returned (.string x)) ∧ Below w.heap.size w w') := by
                intro w1 h1
                refine (Tryz.itoa_text p hp1 hp2 w1 (henv.env2.below h1)).mono ?_
                rintro e w' ⟨he, hb⟩
                exact ⟨he, h1.trans (hb.mono h1.size)⟩
              obtain ⟨te, ve, hg⟩ := henv.ePart
              have HP : Hid (∀ (x : ByteArray) W, Calls Tryz.prog 57 #[.string ⟨#[112, 97, 114, 116]⟩, .string x, .iface te ve] W fun e w' => e = .returned (.iface 77 (.agg #[.int .i64 6, .string ⟨#[112, 97, 114, 116]⟩, .string x, .iface te ve])) ∧ w' = W) := fun x W => Tryz.errPart_any _ x te ve W
              have HG : Hid (∀ w1, Below w.heap.size w w1 → w1.cell? ⟨0, 0, none⟩ = some (.iface te ve)) := fun w1 h1 => (h1.cell (p := ⟨0, 0, none⟩) (show 0 < w.heap.size by omega)).trans hg
              generalize (⟨t.toArray⟩ : ByteArray) = tb at *
              clear HK HBM HES HS hk hv henv ht hp1 hp2 h2
              go_enter Tryz.func32, Tryz.ntmps32
              go_upto_region 2 with fail
              go_region_held3 (fun w' => w'.cell? ⟨0, 0, none⟩ = some (.iface te ve)) (go_keep) (first | (go_at_call 46; refine Calls.mono (HI.out _ (by first | exact Below.refl _ _ | exact same_heap rfl rfl rfl rfl)) ?_; rintro e w1 ⟨⟨x, rfl⟩, b1⟩; have HB1 : Hid (Below w.heap.size w w1) := b1; clear b1; have hg1 := HG.out w1 HB1.out) | (go_at_call 57; refine Calls.mono (HP.out _ _) ?_; rintro e W0 ⟨rfl, hw0⟩; have hw0 := hw0.symm; subst hw0))
              all_goals
                go_wp2
                go_ret
                exact ⟨But.of_below HB1.out, _, _, _, _, rfl⟩
end Go.Proofs
/-
  What readAlone of package moor answers.
-/
namespace Go.Proofs
open Go.RowKit Go.Moor

/-- An address without a base, of a text of any length. -/
def alone (t : Bs) : Except Int Adr := if 2000 < t.length then .error 1 else readAddr hostTell t none
def Tryz.AloneRes (o : Except Int Adr) (e : Ending) (w' : World) : Prop :=
  match o with
  | .error n => ∃ cs, e = .returned (.tuple #[.agg cs, .int .i64 n]) ∧ cs.size = 13 ∧ cs.all (·.oneCell') = true
  | .ok a => ∃ v, e = .returned (.tuple #[.agg (adrCells a v), .int .i64 0]) ∧ SegRow w' v a.way.segs
theorem setRow_here {w : World} {g : Nat} {old : Array Value} {t : TypeId} (h : w.heap[g]? = some (.cells old t (0, 0))) (cs : Array Value) : (w.setRow g cs).heap[g]? = some (.cells cs t (0, 0)) := by
  unfold World.setRow
  simp [Array.getElem?_modify, h]
theorem zeroAdr_one' : zeroAdr.all (·.oneCell') = true := by unfold zeroAdr; simp [Value.oneCell']
theorem Tryz.alone_of {l : Bs} {o : Except Int Adr} {e : Ending} {w2 : World} (h : Tryz.ReadRes l o e w2) :
    ∃ cs v n, e = .returned (.tuple #[.agg cs, v]) ∧ cs.size = 13 ∧ cs.all (·.oneCell') = true ∧
      (∀ w1, Tryz.Env w1 → Calls Tryz.prog 21 #[v] w1 fun e w' => e = .returned (.int .i64 n) ∧ Below w1.heap.size w1 w') ∧
      ∀ w3 g, w2.heap[g]? = some (.cells zeroAdr 52 (0, 0)) → But g w2 w3 → Tryz.AloneRes o (.returned (.tuple #[.agg cs, .int .i64 n])) w3 := by
  cases o with
  | error n =>
    obtain ⟨x, y, te, ve, rfl⟩ := h
    exact ⟨_, _, n, rfl, rfl, zeroAdr_one', fun w1 he => Tryz.errnoOf_wrap _ n x y te ve w1 he, fun w3 g _ _ => ⟨_, rfl, rfl, zeroAdr_one'⟩⟩
  | ok a =>
    obtain ⟨v, rfl, hs⟩ := h
    have hv1 : (adrCells a v).all (·.oneCell') = true := by
      obtain ⟨⟨sp, cap, rfl, _⟩, _⟩ := hs
      exact adrCells_one _ _ rfl
    exact ⟨_, _, 0, rfl, rfl, hv1, fun w1 _ => Tryz.errnoOf_nil w1, fun w3 g hg hb => ⟨v, rfl, segRow_but hs hb (tagged_off hs.2 hg (by decide))⟩⟩

set_option maxHeartbeats 8000000 in
set_option maxRecDepth 8000 in
theorem Tryz.readAlone_any (t : Bs) (w : World) (ht : t.length ≤ maxLen) (henv : Tryz.Env2 w) :
    Calls Tryz.prog 14 #[.string ⟨t.toArray⟩] w fun e w' => Tryz.AloneRes (alone t) e w' ∧ Below w.heap.size w w' := by
  obtain ⟨W, hW⟩ : ∃ W, W = w.alloc (.cells zeroAdr 52) := ⟨_, rfl⟩
  have hBW : Below w.heap.size w W := by
    rw [hW]
    exact (Below.refl _ _).alloc (Nat.le_refl _) _
  have HBW : Hid (Below w.heap.size w W) := hBW
  have hsize : W.heap.size = w.heap.size + 1 := by rw [hW]; simp
  have hz0 : W.heap[w.heap.size]? = some (.cells zeroAdr 52 (0, 0)) := by rw [hW]; exact alloc_here w _ _
  by_cases hl : t.length ≤ 2000
  · have HL : Hid (∀ w1, Calls Tryz.prog 17 #[.string ⟨t.toArray⟩] w1 fun e w' => e = .returned (.bool false) ∧ w' = w1) := fun w1 => Tryz.isLong_no _ w1 (by rw [size_mk]; exact hl)
    have HE : Hid (alone t = readAddr hostTell t none) := if_neg (by omega)
    have HR : Hid (Calls Tryz.prog 27 #[.string ⟨t.toArray⟩, .pointer none] W fun e w' => Tryz.ReadRes t (readAddr hostTell t none) e w' ∧ Below W.heap.size W w') := Tryz.Read_any t none none W (by omega) rfl (henv.below hBW)
    have HEN : Hid (∀ w1, Below W.heap.size W w1 → Tryz.Env w1) := fun w1 h1 => ((henv.below hBW).below h1).env
    have HZ : Hid (∀ w1, Below W.heap.size W w1 → w1.heap[w.heap.size]? = some (.cells zeroAdr 52 (0, 0))) := fun w1 h1 => (h1.block w.heap.size (by omega)).trans hz0
    clear ht henv hBW hl
    go_enter Tryz.func14, Tryz.ntmps14
    go_upto_region 1 with fail
    unfold zeroAdr at hW
    rw [← hW]
    clear hW
    go_wp2_with fail
    refine Calls.mono (HL.out W) ?_
    rintro e W0 ⟨rfl, hw0⟩
    have hw0 := hw0.symm
    subst hw0
    go_wp2_with fail
    refine Calls.mono HR.out ?_
    rintro e w2 ⟨hr, b2⟩
    obtain ⟨cs, v, n, rfl, hcs, hone, herr, hfin⟩ := Tryz.alone_of hr
    have HN : Hid ((w2.alloc (.cells zeroAdr 52)).heap[w2.heap.size]? = some (.cells zeroAdr 52 (0, 0))) := alloc_here w2 _ _
    have HZS : Hid ((Tryz.prog.info? 52).map (·.size) = some cs.size) := by show _ = _; rw [hcs]; exact Tryz.sizeAdr
    have HZO : Hid (zeroAdr.size = cs.size) := by show _ = _; rw [hcs]; rfl
    have HON : Hid (cs.all (·.oneCell') = true) := hone
    have hk2 := b2.size
    obtain ⟨V, hV⟩ : ∃ V, V = (w2.alloc (.cells zeroAdr 52)).setRow w2.heap.size cs := ⟨_, rfl⟩
    have hVc : V.heap[w2.heap.size]? = some (.cells cs 52 (0, 0)) := by
      rw [hV]
      exact setRow_here HN.out cs
    have hVB : Below w2.heap.size w2 V := by
      rw [hV]
      exact below_setRow ((Below.refl _ _).alloc (Nat.le_refl _) _) (Nat.le_refl _) _
    have HVB : Hid (Below W.heap.size W V) := b2.trans (hVB.mono hk2)
    have HV2 : Hid (Below w2.heap.size w2 V) := hVB
    have HFIN : Hid (∀ w3 g, w2.heap[g]? = some (.cells zeroAdr 52 (0, 0)) → But g w2 w3 → Tryz.AloneRes (readAddr hostTell t none) (.returned (.tuple #[.agg cs, .int .i64 n])) w3) := hfin
    have HERR : Hid (∀ w1, Below W.heap.size W w1 → Calls Tryz.prog 21 #[v] w1 fun e w' => e = .returned (.int .i64 n) ∧ Below w1.heap.size w1 w') := fun w1 h1 => herr w1 (HEN.out w1 h1)
    have HVE : Hid (V = (w2.alloc (.cells zeroAdr 52)).setRow w2.heap.size cs) := hV
    have HB2 : Hid (Below W.heap.size W w2) := b2
    obtain ⟨c0, c1, c2, c3, c4, c5, c6, c7, c8, c9, c10, c11, c12, rfl, o0, o1, o2, o3, o4, o5, o6, o7, o8, o9, o10, o11, o12⟩ := split13 cs hcs hone
    clear hr b2 hfin herr hV hVB hcs hone
    go_wp2_with (refine wpList_store_row rfl 52 _ _ rfl w2.heap.size _ rfl rfl 52 zeroAdr HN.out HZS.out HZO.out HON.out ?_)
    have hve := HVE.out
    unfold zeroAdr at hve
    rw [← hve]
    clear hve
    obtain ⟨y0, y1, y2, y3, y4, y5, y6, y7, y8, y9, y10, y11, y12⟩ : V.cell? ⟨w2.heap.size, 0, none⟩ = some c0 ∧ V.cell? ⟨w2.heap.size, 1, none⟩ = some c1 ∧ V.cell? ⟨w2.heap.size, 2, none⟩ = some c2 ∧ V.cell? ⟨w2.heap.size, 3, none⟩ = some c3 ∧ V.cell? ⟨w2.heap.size, 4, none⟩ = some c4 ∧ V.cell? ⟨w2.heap.size, 5, none⟩ = some c5 ∧ V.cell? ⟨w2.heap.size, 6, none⟩ = some c6 ∧ V.cell? ⟨w2.heap.size, 7, none⟩ = some c7 ∧ V.cell? ⟨w2.heap.size, 8, none⟩ = some c8 ∧ V.cell? ⟨w2.heap.size, 9, none⟩ = some c9 ∧ V.cell? ⟨w2.heap.size, 10, none⟩ = some c10 ∧ V.cell? ⟨w2.heap.size, 11, none⟩ = some c11 ∧ V.cell? ⟨w2.heap.size, 12, none⟩ = some c12 := ⟨cell_heap hVc 0, cell_heap hVc 1, cell_heap hVc 2, cell_heap hVc 3, cell_heap hVc 4, cell_heap hVc 5, cell_heap hVc 6, cell_heap hVc 7, cell_heap hVc 8, cell_heap hVc 9, cell_heap hVc 10, cell_heap hVc 11, cell_heap hVc 12⟩
    have q0 : ∀ (W : World) (a : Go.Addr) (m : Mode), (store a c0 m).run Tryz.prog W = stored Tryz.prog W a c0 m := fun W a m => run_store Tryz.prog W a c0 m o0
    have q1 : ∀ (W : World) (a : Go.Addr) (m : Mode), (store a c1 m).run Tryz.prog W = stored Tryz.prog W a c1 m := fun W a m => run_store Tryz.prog W a c1 m o1
    have q2 : ∀ (W : World) (a : Go.Addr) (m : Mode), (store a c2 m).run Tryz.prog W = stored Tryz.prog W a c2 m := fun W a m => run_store Tryz.prog W a c2 m o2
    have q3 : ∀ (W : World) (a : Go.Addr) (m : Mode), (store a c3 m).run Tryz.prog W = stored Tryz.prog W a c3 m := fun W a m => run_store Tryz.prog W a c3 m o3
    have q4 : ∀ (W : World) (a : Go.Addr) (m : Mode), (store a c4 m).run Tryz.prog W = stored Tryz.prog W a c4 m := fun W a m => run_store Tryz.prog W a c4 m o4
    have q5 : ∀ (W : World) (a : Go.Addr) (m : Mode), (store a c5 m).run Tryz.prog W = stored Tryz.prog W a c5 m := fun W a m => run_store Tryz.prog W a c5 m o5
    have q6 : ∀ (W : World) (a : Go.Addr) (m : Mode), (store a c6 m).run Tryz.prog W = stored Tryz.prog W a c6 m := fun W a m => run_store Tryz.prog W a c6 m o6
    have q7 : ∀ (W : World) (a : Go.Addr) (m : Mode), (store a c7 m).run Tryz.prog W = stored Tryz.prog W a c7 m := fun W a m => run_store Tryz.prog W a c7 m o7
    have q8 : ∀ (W : World) (a : Go.Addr) (m : Mode), (store a c8 m).run Tryz.prog W = stored Tryz.prog W a c8 m := fun W a m => run_store Tryz.prog W a c8 m o8
    have q9 : ∀ (W : World) (a : Go.Addr) (m : Mode), (store a c9 m).run Tryz.prog W = stored Tryz.prog W a c9 m := fun W a m => run_store Tryz.prog W a c9 m o9
    have q10 : ∀ (W : World) (a : Go.Addr) (m : Mode), (store a c10 m).run Tryz.prog W = stored Tryz.prog W a c10 m := fun W a m => run_store Tryz.prog W a c10 m o10
    have q11 : ∀ (W : World) (a : Go.Addr) (m : Mode), (store a c11 m).run Tryz.prog W = stored Tryz.prog W a c11 m := fun W a m => run_store Tryz.prog W a c11 m o11
    have q12 : ∀ (W : World) (a : Go.Addr) (m : Mode), (store a c12 m).run Tryz.prog W = stored Tryz.prog W a c12 m := fun W a m => run_store Tryz.prog W a c12 m o12
    have HCV : Hid (∀ w3, Below V.heap.size V w3 → w3.cell? ⟨w2.heap.size, 0, none⟩ = some c0 ∧ w3.cell? ⟨w2.heap.size, 1, none⟩ = some c1 ∧ w3.cell? ⟨w2.heap.size, 2, none⟩ = some c2 ∧ w3.cell? ⟨w2.heap.size, 3, none⟩ = some c3 ∧ w3.cell? ⟨w2.heap.size, 4, none⟩ = some c4 ∧ w3.cell? ⟨w2.heap.size, 5, none⟩ = some c5 ∧ w3.cell? ⟨w2.heap.size, 6, none⟩ = some c6 ∧ w3.cell? ⟨w2.heap.size, 7, none⟩ = some c7 ∧ w3.cell? ⟨w2.heap.size, 8, none⟩ = some c8 ∧ w3.cell? ⟨w2.heap.size, 9, none⟩ = some c9 ∧ w3.cell? ⟨w2.heap.size, 10, none⟩ = some c10 ∧ w3.cell? ⟨w2.heap.size, 11, none⟩ = some c11 ∧ w3.cell? ⟨w2.heap.size, 12, none⟩ = some c12) := by
      intro w3 h3
      have k := (h3.block w2.heap.size (Array.getElem?_eq_some_iff.1 hVc).1).trans hVc
      exact ⟨cell_heap k 0, cell_heap k 1, cell_heap k 2, cell_heap k 3, cell_heap k 4, cell_heap k 5, cell_heap k 6, cell_heap k 7, cell_heap k 8, cell_heap k 9, cell_heap k 10, cell_heap k 11, cell_heap k 12⟩
    have HZV : Hid (∀ w3, Below V.heap.size V w3 → w3.heap[w.heap.size]? = some (.cells zeroAdr 52 (0, 0))) := fun w3 h3 => HZ.out w3 (HVB.out.trans (h3.mono HVB.out.size))
    clear hVc HVE HN HZS HZO HON o0 o1 o2 o3 o4 o5 o6 o7 o8 o9 o10 o11 o12
    go_region_with (go_at_call 21; refine Calls.mono (HERR.out _ (by first | exact HVB.out | exact HVB.out.trans (same_heap rfl rfl rfl rfl))) ?_; rintro e w3 ⟨rfl, b3⟩; have HB3 : Hid (Below V.heap.size V w3) := (by first | exact b3 | exact (same_heap rfl rfl rfl rfl : Below V.heap.size V V.drew).trans b3); clear b3; obtain ⟨d0, d1, d2, d3, d4, d5, d6, d7, d8, d9, d10, d11, d12⟩ := HCV.out w3 HB3.out; obtain ⟨⟨p0, p1, p2, p3, p4, p5, p6, p7, p8, p9, p10, p11, p12⟩, r0, r1, r2, r3, r4, r5, r6, r7, r8, r9, r10, r11, r12⟩ := cells13 (HZV.out w3 HB3.out))
    all_goals
      go_wp2
      have hld := run_loadVar_row (P := Tryz.prog) _ w.heap.size 52 52 #[c0, c1, c2, c3, c4, c5, c6, c7, c8, c9, c10, c11, c12] (0, 0) _ (set13 (HZV.out w3 HB3.out) c0 c1 c2 c3 c4 c5 c6 c7 c8 c9 c10 c11 c12) Tryz.underlying52 rfl Tryz.sizeAdr
      have hb23 : Below w2.heap.size w2 w3 := HV2.out.trans (HB3.out.mono HV2.out.size)
      have hbw3 : Below w.heap.size w w3 := HBW.out.trans ((HVB.out.trans (HB3.out.mono HVB.out.size)).mono (by omega))
      rw [HE.out]
      refine bodyPost_ret (v := .tuple #[.agg #[c0, c1, c2, c3, c4, c5, c6, c7, c8, c9, c10, c11, c12], .int .i64 n]) ?_ rfl ⟨HFIN.out _ w.heap.size (HZ.out w2 HB2.out) ((((((((((((((But.of_below hb23).setCell 0 c0).setCell 1 c1).setCell 2 c2).setCell 3 c3).setCell 4 c4).setCell 5 c5).setCell 6 c6).setCell 7 c7).setCell 8 c8).setCell 9 c9).setCell 10 c10).setCell 11 c11).setCell 12 c12), below13 hbw3 (Nat.le_refl _) c0 c1 c2 c3 c4 c5 c6 c7 c8 c9 c10 c11 c12⟩
      rw [results_cell_tmp rfl]
      simp [asAddr, Result.andThen, hld, Act.put]
  · have HL : Hid (∀ w1, Calls Tryz.prog 17 #[.string ⟨t.toArray⟩] w1 fun e w' => e = .returned (.bool true) ∧ w' = w1) := fun w1 => Tryz.isLong_yes _ w1 (by rw [size_mk]; omega) (by rw [size_mk]; exact ht)
    have HE : Hid (alone t = .error 1) := if_pos (by omega)
    have HZ : Hid (W.heap[w.heap.size]? = some (.cells zeroAdr 52 (0, 0))) := hz0
    obtain ⟨⟨p0, p1, p2, p3, p4, p5, p6, p7, p8, p9, p10, p11, p12⟩, r0, r1, r2, r3, r4, r5, r6, r7, r8, r9, r10, r11, r12⟩ := cells13 hz0
    clear ht henv hBW hl
    go_enter Tryz.func14, Tryz.ntmps14
    go_upto_region 1 with fail
    unfold zeroAdr at hW
    rw [← hW]
    clear hW
    go_wp2_with fail
    refine Calls.mono (HL.out W) ?_
    rintro e W0 ⟨rfl, hw0⟩
    have hw0 := hw0.symm
    subst hw0
    go_wp2_with fail
    have hld := run_loadVar_row (P := Tryz.prog) _ w.heap.size 52 52 zeroAdr (0, 0) _ (set13 HZ.out (.string ⟨#[]⟩) (.string ⟨#[]⟩) (.string ⟨#[]⟩) (.bool false) (.string ⟨#[]⟩) (.int .i64 0) (.bool false) (.string ⟨#[]⟩) (.slice none 0 0) (.bool false) (.string ⟨#[]⟩) (.bool false) (.string ⟨#[]⟩)) Tryz.underlying52 rfl Tryz.sizeAdr
    rw [HE.out]
    refine bodyPost_ret (v := .tuple #[.agg zeroAdr, .int .i64 1]) ?_ rfl ⟨⟨_, rfl, rfl, zeroAdr_one'⟩, below13 HBW.out (Nat.le_refl _) (.string ⟨#[]⟩) (.string ⟨#[]⟩) (.string ⟨#[]⟩) (.bool false) (.string ⟨#[]⟩) (.int .i64 0) (.bool false) (.string ⟨#[]⟩) (.slice none 0 0) (.bool false) (.string ⟨#[]⟩) (.bool false) (.string ⟨#[]⟩)⟩
    rw [results_cell_tmp rfl]
    simp only [zeroAdr] at hld
    simp [asAddr, Result.andThen, hld, zeroAdr]
end Go.Proofs
