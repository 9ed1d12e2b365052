/-
  An address with another part stays small.
-/
import Derived.Test.YtkcnageeamappabGreatDoorJABound
import Derived.Test.YtkcnageeamappabGreatDoorJLaid3
namespace Go.Proofs
open Go.RowKit Go.Moor

theorem cutScheme_len (t : Bs) : (cutScheme t).1.length ≤ t.length := by
  unfold cutScheme
  cases h : cutB 58 t with
  | none => simp
  | some p =>
    obtain ⟨a, b⟩ := p
    have := cutB_parts 58 t a b h
    simp only
    split
    · rw [lower_len, this]
      simp
    · simp
theorem portBesideP_range (p : Int) (s : Bs) (h : p = -1 ∨ (0 ≤ p ∧ p ≤ 65535)) : portBesideP p s = -1 ∨ (0 ≤ portBesideP p s ∧ portBesideP p s ≤ 65535) := by
  unfold portBesideP
  split
  · exact Or.inl rfl
  · exact h
theorem trimMark_len (c : UInt8) (v : Bs) : (trimMark c v).length ≤ v.length := by
  cases v with
  | nil => simp [trimMark]
  | cons b l =>
    show List.length (if b = c then l else b :: l) ≤ _
    split <;> simp
theorem markOpt_len (c : UInt8) (s : Int) (v : Bs) : ((markOpt c s v).getD []).length ≤ 3 * v.length := by
  unfold markOpt
  split
  · simp
  · have := optEsc_len s (some (trimMark c v))
    have h2 := trimMark_len c v
    simp only [Option.map_some, Option.getD_some] at this ⊢
    omega
theorem setPart_small {a b : Adr} {p : Int} {v : Bs} (hs : Small 1000000 1000000 a) (hv : v.length ≤ 2000) (h : setPart hostTell a p v = .ok b) : Small 1000000 1000000 b := by
  have hesc : ∀ s : Int, (esc s v).length ≤ 6000 := fun s => by
    have := optEsc_len s (some v)
    simp only [Option.map_some, Option.getD_some] at this
    omega
  unfold setPart at h
  split at h
  · unfold setScheme at h
    simp only at h
    split at h
    · cases h
    · split at h
      · cases h
      · injection h with h
        subst h
        have := cutScheme_len (v ++ [58])
        simp only [List.length_append, List.length_cons, List.length_nil] at this
        exact ⟨Nat.le_trans this (by omega), hs.user, hs.pass, hs.host, portBesideP_range _ _ hs.port, hs.text, hs.count, hs.segs, hs.query, hs.frag⟩
  · split at h
    · unfold setBeside at h
      split at h
      · cases h
      · split at h
        · injection h with h
          subst h
          exact ⟨hs.scheme, Nat.le_trans (hesc 5) (by omega), hs.pass, hs.host, hs.port, hs.text, hs.count, hs.segs, hs.query, hs.frag⟩
        · split at h
          · injection h with h
            subst h
            exact ⟨hs.scheme, hs.user, Nat.le_trans (hesc 5) (by omega), hs.host, hs.port, hs.text, hs.count, hs.segs, hs.query, hs.frag⟩
          · split at h
            · cases h
            · rename_i n hn
              injection h with h
              subst h
              exact ⟨hs.scheme, hs.user, hs.pass, hs.host, readPort_range _ _ _ hn, hs.text, hs.count, hs.segs, hs.query, hs.frag⟩
    · split at h
      · unfold setHost at h
        split at h
        · cases h
        · split at h
          · cases h
          · split at h
            · cases h
            · rename_i x hx
              injection h with h
              subst h
              have hl : x.length ≤ 3 * v.length + 90 := by
                unfold hostAlone at hx
                split at hx
                · exact fileHost_len _ _ hx
                · exact hostTell_len _ _ _ hx
              exact ⟨hs.scheme, hs.user, hs.pass, Nat.le_trans hl (by omega), hs.port, hs.text, hs.count, hs.segs, hs.query, hs.frag⟩
      · split at h
        · unfold setPath at h
          split at h
          · cases h
          · split at h
            · cases h
            · injection h with h
              subst h
              have hl := evenSlashes_len a.scheme v
              have hw := readWay_small a.scheme [] (evenSlashes a.scheme v) 10000 0 (by omega) (by simp) (by simp)
              exact ⟨hs.scheme, hs.user, hs.pass, hs.host, hs.port, Nat.le_trans hw.text (by omega), Nat.le_trans hw.count (by omega), fun x hx => Nat.le_trans (hw.segs x hx) (by omega), hs.query, hs.frag⟩
        · split at h
          · injection h with h
            subst h
            exact ⟨hs.scheme, hs.user, hs.pass, hs.host, hs.port, hs.text, hs.count, hs.segs, Nat.le_trans (markOpt_len _ _ _) (by omega), hs.frag⟩
          · split at h
            · injection h with h
              subst h
              exact ⟨hs.scheme, hs.user, hs.pass, hs.host, hs.port, hs.text, hs.count, hs.segs, hs.query, Nat.le_trans (markOpt_len _ _ _) (by omega)⟩
            · cases h
end Go.Proofs
/-
  What setPort and setBesideHost of package address do.
-/
namespace Go.Proofs
open Go.RowKit Go.Moor

/-- No error, and the address is as it says; or a fault with that number. -/
def Tryz.SetRes (k : Nat) (o : Except Int Adr) (e : Ending) (w' : World) : Prop :=
  match o with
  | .error n => Tryz.FaultOf n e
  | .ok b => e = .returned .nilIface ∧ ∃ u, w'.heap[k]? = some (.cells (adrCells b u) 52 (0, 0)) ∧ SegRow w' u b.way.segs
def portSet (a : Adr) (t : Bs) : Except Int Adr :=
  match readPort t a.scheme with
  | none => .error 5
  | some p => .ok { a with auth := { a.auth with port := p } }

set_option maxHeartbeats 2000000 in
theorem Tryz.setPort_any (k : Nat) (a : Adr) (v : Value) (t : Bs) (w : World) (ht : t.length < 4294967281) (hk : w.heap[k]? = some (.cells (adrCells a v) 52 (0, 0))) (hv : SegRow w v a.way.segs) (henv : Tryz.Env2 w) :
    Calls Tryz.prog 85 #[.pointer (some ⟨k, 0, none⟩), .string ⟨t.toArray⟩] w fun e w' => But k w w' ∧ Tryz.SetRes k (portSet a t) e w' := by
  have HR : Hid (Calls Tryz.prog 122 #[.string ⟨t.toArray⟩, .string ⟨a.scheme.toArray⟩] w fun e w' => Tryz.PortRes (readPort t a.scheme) e ∧ Below w.heap.size w w') := Tryz.readPort_any t a.scheme w ht henv
  have hkz : k < w.heap.size := (Array.getElem?_eq_some_iff.1 hk).1
  have HK : Hid (∀ w1, Below w.heap.size w w1 → w1.heap[k]? = some (.cells (adrCells a v) 52 (0, 0))) := fun w1 h1 => (h1.block k hkz).trans hk
  have HS : Hid (∀ w1, But k w w1 → SegRow w1 v a.way.segs) := fun w1 h1 => segRow_but hv h1 (tagged_off hv.2 hk (by decide))
  have h0 : w.cell? ⟨k, 0, none⟩ = some (.string ⟨a.scheme.toArray⟩) := cell_heap hk 0
  unfold portSet
  cases hr : readPort t a.scheme with
  | none =>
    rw [hr] at HR
    clear hr hk hv henv ht
    go_enter Tryz.func85, Tryz.ntmps85
    go_wp2_with fail
    refine HR.out.mono ?_
    rintro e w1 ⟨⟨x, y, te, ve, rfl⟩, b1⟩
    go_wp2
    go_ret
    exact ⟨But.of_below b1, _, _, _, _, rfl⟩
  | some p =>
    rw [hr] at HR
    clear hr hk hv henv ht
    go_enter Tryz.func85, Tryz.ntmps85
    go_wp2_with fail
    refine HR.out.mono ?_
    rintro e w1 ⟨he, b1⟩
    have he : e = .returned (.tuple #[.int .i64 p, .nilIface]) := he
    subst he
    have hk1 := HK.out w1 b1
    have HK1 : Hid (w1.heap[k]? = some (.cells (adrCells a v) 52 (0, 0))) := hk1
    have HB : Hid (Below w.heap.size w w1) := b1
    have d5 : w1.cell? ⟨k, 5, none⟩ = some (.int .i64 a.auth.port) := cell_heap hk1 5
    have f5 := frozen_heap hk1 5
    clear hk1 b1
    go_wp2
    go_ret
    have hb : But k w (w1.setCell ⟨k, 5, none⟩ (.int .i64 p)) := (But.of_below HB.out).setCell 5 _
    exact ⟨hb, rfl, v, heap_setCell_same w1 k 5 _ 52 (.int .i64 p) HK1.out, HS.out _ hb⟩

theorem Tryz.itoa_text (p : Int) (h : -9223372036854775808 ≤ p) (h2 : p ≤ 9223372036854775807) (w : World) (henv : Tryz.Env2 w) : Calls Tryz.prog 46 #[.int .i64 p] w fun e w' => (∃ x : ByteArray, e = .returned (.string x)) ∧ Below w.heap.size w w' := by
  refine (Tryz.strconv_Itoa p (by omega) (by omega) w henv.env.pow10).mono ?_
  rintro e w' ⟨rfl, k, os, rfl⟩
  exact ⟨⟨_, rfl⟩, below_grow _ _ _⟩

set_option maxHeartbeats 4000000 in
theorem Tryz.setBeside_any (k : Nat) (a : Adr) (v : Value) (p : Int) (t : Bs) (w : World) (ht : t.length < 4294967281) (hp : p = 2 ∨ p = 3 ∨ p = 5) (hk : w.heap[k]? = some (.cells (adrCells a v) 52 (0, 0))) (hv : SegRow w v a.way.segs) (henv : Tryz.Env3 w) :
    Calls Tryz.prog 51 #[.pointer (some ⟨k, 0, none⟩), .int .i64 p, .string ⟨t.toArray⟩] w fun e w' => But k w w' ∧ Tryz.SetRes k (setBeside a p t) e w' := by
  have hkz : k < w.heap.size := (Array.getElem?_eq_some_iff.1 hk).1
  have hgz := henv.env2.env.size
  have HK : Hid (∀ w1, Below w.heap.size w w1 → w1.heap[k]? = some (.cells (adrCells a v) 52 (0, 0))) := fun w1 h1 => (h1.block k hkz).trans hk
  have HS : Hid (∀ w1, But k w w1 → SegRow w1 v a.way.segs) := fun w1 h1 => segRow_but hv h1 (tagged_off hv.2 hk (by decide))
  have h0 : w.cell? ⟨k, 0, none⟩ = some (.string ⟨a.scheme.toArray⟩) := cell_heap hk 0
  have h4 : w.cell? ⟨k, 4, none⟩ = some (.string ⟨a.auth.host.toArray⟩) := cell_heap hk 4
  by_cases hx : a.auth.host = [] ∨ a.scheme = sFile
  · have HI : Hid (∀ w1, Below w.heap.size w w1 → Calls Tryz.prog 46 #[.int .i64 p] w1 fun e w' => (∃ x : ByteArray, e = .returned (.string x)) ∧ Below w.heap.size w w') := by
      intro w1 h1
      refine (Tryz.itoa_text p (by omega) (by omega) w1 (henv.env2.below h1)).mono ?_
      rintro e w' ⟨he, hb⟩
      exact ⟨he, h1.trans (hb.mono h1.size)⟩
    have HE : Hid (setBeside a p t = .error 6) := by
      show _ = _
      unfold setBeside
      rw [if_pos hx]
    obtain ⟨te, ve, hg⟩ := henv.eBare
    have HP : Hid (∀ (x : ByteArray) W, Calls Tryz.prog 57 #[.string ⟨#[112, 97, 114, 116]⟩, .string x, .iface te ve] W fun e w' => e = .returned (.iface 77 (.agg #[.int .i64 6, .string ⟨#[112, 97, 114, 116]⟩, .string x, .iface te ve])) ∧ w' = W) := fun x W => Tryz.errPart_any _ x te ve W
    have HG : Hid (∀ w1, Below w.heap.size w w1 → w1.cell? ⟨5, 0, none⟩ = some (.iface te ve)) := fun w1 h1 => (h1.cell (p := ⟨5, 0, none⟩) (show 5 < w.heap.size by omega)).trans hg
    have hc : ((⟨a.auth.host.toArray⟩ : ByteArray).toList.isEmpty = true) ∨ ((⟨a.auth.host.toArray⟩ : ByteArray).toList.isEmpty = false ∧ ((⟨a.scheme.toArray⟩ : ByteArray).toList == [102, 105, 108, 101]) = true) := by
      rw [Lib.toList_data, Lib.toList_data]
      rcases hx with h | h
      · left; simp [h]
      · cases hh : a.auth.host with
        | nil => left; rfl
        | cons => right; exact ⟨rfl, by rw [h]; rfl⟩
    have HC : Hid _ := hc
    generalize (⟨a.auth.host.toArray⟩ : ByteArray) = hb at *
    generalize (⟨a.scheme.toArray⟩ : ByteArray) = sb at *
    generalize (⟨t.toArray⟩ : ByteArray) = tb at *
    clear hx hk hv henv ht hp hc
    go_enter Tryz.func51, Tryz.ntmps51
    rcases HC.out with c1 | ⟨c1, c2⟩
    all_goals
      go_upto_region 2 with fail
      go_region_held3 (fun w' => w'.cell? ⟨5, 0, none⟩ = some (.iface te ve)) (go_keep) (first | (go_at_call 46; refine Calls.mono (HI.out _ (by first | exact Below.refl _ _ | exact same_heap rfl rfl rfl rfl)) ?_; rintro e w1 ⟨⟨x, rfl⟩, b1⟩; have HB1 : Hid (Below w.heap.size w w1) := b1; clear b1; have hg1 := HG.out w1 HB1.out) | (go_at_call 57; refine Calls.mono (HP.out _ _) ?_; rintro e W0 ⟨rfl, hw0⟩; have hw0 := hw0.symm; subst hw0))
      all_goals
        go_wp2
        go_ret
        rw [HE.out]
        exact ⟨But.of_below HB1.out, _, _, _, _, rfl⟩
  · have hx1 : a.auth.host ≠ [] := fun h => hx (Or.inl h)
    have hx2 : a.scheme ≠ sFile := fun h => hx (Or.inr h)
    have c1 : (⟨a.auth.host.toArray⟩ : ByteArray).toList.isEmpty = false := empty_no _ hx1
    have c2 : ((⟨a.scheme.toArray⟩ : ByteArray).toList == [102, 105, 108, 101]) = false := ba_ne _ _ hx2
    have HT : Hid (Calls Tryz.prog 84 #[.string ⟨t.toArray⟩, .int .i64 5] w fun e w' => e = .returned (.string ⟨(esc 5 t).toArray⟩) ∧ Below w.heap.size w w') := Tryz.text_any ⟨t.toArray⟩ 5 w (by rw [size_mk]; omega) henv.env2.env.sets (by omega)
    have HPO : Hid (Calls Tryz.prog 85 #[.pointer (some ⟨k, 0, none⟩), .string ⟨t.toArray⟩] w fun e w' => But k w w' ∧ Tryz.SetRes k (portSet a t) e w') := Tryz.setPort_any k a v t w ht hk hv henv.env2
    unfold setBeside
    rw [if_neg hx]
    generalize (⟨a.auth.host.toArray⟩ : ByteArray) = hb0 at *
    generalize (⟨a.scheme.toArray⟩ : ByteArray) = sb0 at *
    rcases hp with rfl | rfl | rfl
    · rw [if_pos rfl]
      clear HPO hx hk hv henv ht hx1 hx2
      go_enter Tryz.func51, Tryz.ntmps51
      go_wp2_with fail
      refine HT.out.mono ?_
      rintro e w1 ⟨rfl, b1⟩
      have hk1 := HK.out w1 b1
      have HK1 : Hid (w1.heap[k]? = some (.cells (adrCells a v) 52 (0, 0))) := hk1
      have HB : Hid (Below w.heap.size w w1) := b1
      have d1 : w1.cell? ⟨k, 1, none⟩ = some (.string ⟨a.auth.user.toArray⟩) := cell_heap hk1 1
      have f1 := frozen_heap hk1 1
      clear hk1 b1
      go_wp2
      go_ret
      have hb : But k w (w1.setCell ⟨k, 1, none⟩ (.string ⟨(esc 5 t).toArray⟩)) := (But.of_below HB.out).setCell 1 _
      exact ⟨hb, rfl, v, heap_setCell_same w1 k 1 _ 52 _ HK1.out, HS.out _ hb⟩
    · rw [if_neg (by decide), if_pos rfl]
      clear HPO hx hk hv henv ht hx1 hx2
      go_enter Tryz.func51, Tryz.ntmps51
      go_wp2_with fail
      refine HT.out.mono ?_
      rintro e w1 ⟨rfl, b1⟩
      have hk1 := HK.out w1 b1
      have HK1 : Hid (w1.heap[k]? = some (.cells (adrCells a v) 52 (0, 0))) := hk1
      have HB : Hid (Below w.heap.size w w1) := b1
      have d2 : w1.cell? ⟨k, 2, none⟩ = some (.string ⟨a.auth.pass.toArray⟩) := cell_heap hk1 2
      have f2 := frozen_heap hk1 2
      clear hk1 b1
      go_wp2
      go_ret
      have hb : But k w (w1.setCell ⟨k, 2, none⟩ (.string ⟨(esc 5 t).toArray⟩)) := (But.of_below HB.out).setCell 2 _
      exact ⟨hb, rfl, v, heap_setCell_same w1 k 2 _ 52 _ HK1.out, HS.out _ hb⟩
    · rw [if_neg (by decide), if_neg (by decide)]
      show Calls _ _ _ _ fun e w' => But k w w' ∧ Tryz.SetRes k (portSet a t) e w'
      clear HT hx hk hv henv ht hx1 hx2
      go_enter Tryz.func51, Tryz.ntmps51
      go_wp2_with fail
      refine HPO.out.mono ?_
      rintro e w1 ⟨hb, hr⟩
      obtain ⟨x, rfl⟩ : ∃ x, e = .returned x := by
        cases ho : portSet a t with
        | error n => rw [ho] at hr; obtain ⟨x, y, te, ve, rfl⟩ := hr; exact ⟨_, rfl⟩
        | ok b => rw [ho] at hr; exact ⟨_, hr.1⟩
      have HB : Hid (But k w w1) := hb
      have HRR : Hid (Tryz.SetRes k (portSet a t) (.returned x) w1) := hr
      clear hb hr
      go_wp2
      go_ret
      exact ⟨HB.out, HRR.out⟩
end Go.Proofs
/-
  What setScheme of package address does.
-/
namespace Go.Proofs
open Go.RowKit Go.Moor

set_option maxHeartbeats 4000000 in
set_option maxRecDepth 8000 in
theorem Tryz.setScheme_any (k : Nat) (a : Adr) (v : Value) (t : Bs) (w : World) (ht : t.length ≤ 100000) (hk : w.heap[k]? = some (.cells (adrCells a v) 52 (0, 0))) (hv : SegRow w v a.way.segs) (henv : Tryz.Env3 w) :
    Calls Tryz.prog 50 #[.pointer (some ⟨k, 0, none⟩), .string ⟨t.toArray⟩] w fun e w' => But k w w' ∧ Tryz.SetRes k (setScheme a t) e w' := by
  have hkz : k < w.heap.size := (Array.getElem?_eq_some_iff.1 hk).1
  have hgz := henv.env2.env.size
  have HK : Hid (∀ w1, Below w.heap.size w w1 → w1.heap[k]? = some (.cells (adrCells a v) 52 (0, 0))) := fun w1 h1 => (h1.block k hkz).trans hk
  have HS : Hid (∀ w1, But k w w1 → SegRow w1 v a.way.segs) := fun w1 h1 => segRow_but hv h1 (tagged_off hv.2 hk (by decide))
  have HA : Hid ((⟨t.toArray⟩ : ByteArray) ++ ⟨#[58]⟩ = ⟨(t ++ [58]).toArray⟩) := app_mk t [58]
  have hzs : (⟨t.toArray⟩ : ByteArray).size = t.length := size_mk t
  have hz1 : (⟨#[58]⟩ : ByteArray).size = 1 := rfl
  have g0 : ∀ W : World, (Op.stringOp .add ⟨t.toArray⟩ ⟨#[58]⟩).run Tryz.prog W = .ok (.string ⟨(t ++ [58]).toArray⟩) W := fun W => by
    rw [← HA.out]
    exact run_string_add_sum W _ _ (by omega)
  have HC : Hid (Calls Tryz.prog 73 #[.string ⟨(t ++ [58]).toArray⟩] w fun e w' => e = .returned (.tuple #[.string ⟨(cutScheme (t ++ [58])).1.toArray⟩, .string ⟨(cutScheme (t ++ [58])).2.toArray⟩]) ∧ Below w.heap.size w w') := by
    have h := Tryz.cutScheme_any (⟨(t ++ [58]).toArray⟩ : ByteArray) w (by rw [size_mk]; simp; omega) henv.env2.env
    exact h
  have HSP : Hid (∀ (s : Bs) W, Calls Tryz.prog 29 #[.string ⟨s.toArray⟩] W fun e w' => e = .returned (.bool (special s)) ∧ w' = W) := fun s W => Tryz.isSpecial_any ⟨s.toArray⟩ W
  have HPB : Hid (∀ (s : Bs) W, Calls Tryz.prog 83 #[.int .i64 a.auth.port, .string ⟨s.toArray⟩] W fun e w' => e = .returned (.int .i64 (portBesideP a.auth.port s)) ∧ w' = W) := fun s W => Tryz.portBeside_any a.auth.port s W
  have HP : Hid (∀ (x y : ByteArray) te ve W, Calls Tryz.prog 57 #[.string x, .string y, .iface te ve] W fun e w' => e = .returned (.iface 77 (.agg #[.int .i64 6, .string x, .string y, .iface te ve])) ∧ w' = W) := fun x y te ve W => Tryz.errPart_any x y te ve W
  unfold setScheme
  simp only
  generalize hsc : (cutScheme (t ++ [58])).1 = sc at *
  generalize (⟨(cutScheme (t ++ [58])).2.toArray⟩ : ByteArray) = sb2 at *
  obtain ⟨te1, ve1, hg1⟩ := henv.eScheme
  obtain ⟨te2, ve2, hg2⟩ := henv.eKind
  have HG1 : Hid (∀ w1, Below w.heap.size w w1 → w1.cell? ⟨3, 0, none⟩ = some (.iface te1 ve1)) := fun w1 h1 => (h1.cell (p := ⟨3, 0, none⟩) (show 3 < w.heap.size by omega)).trans hg1
  have HG2 : Hid (∀ w1, Below w.heap.size w w1 → w1.cell? ⟨4, 0, none⟩ = some (.iface te2 ve2)) := fun w1 h1 => (h1.cell (p := ⟨4, 0, none⟩) (show 4 < w.heap.size by omega)).trans hg2
  by_cases hn : sc = []
  · rw [if_pos hn]
    subst hn
    generalize (⟨t.toArray⟩ : ByteArray) = tb at *
    generalize (⟨(t ++ [58]).toArray⟩ : ByteArray) = tb2 at *
    have e0 := empty_yes
    clear hk hv henv ht hg1 hg2 HA hsc hzs
    go_enter Tryz.func50, Tryz.ntmps50
    go_wp2_with fail
    refine HC.out.mono ?_
    rintro e w1 ⟨rfl, b1⟩
    have hg := HG1.out w1 b1
    go_wp2_with (go_at_call 57; refine Calls.mono (HP.out _ _ _ _ _) ?_; rintro e W0 ⟨rfl, hw0⟩; have hw0 := hw0.symm; subst hw0)
    go_wp2
    go_ret
    exact ⟨But.of_below b1, _, _, _, _, rfl⟩
  · rw [if_neg hn]
    have c1 : (⟨sc.toArray⟩ : ByteArray).toList.isEmpty = false := empty_no _ hn
    have HF1 : Hid (∀ x : Bs, ((⟨x.toArray⟩ : ByteArray).toList == [102, 105, 108, 101]) = decide (x = sFile)) := by
      intro x
      by_cases h : x = sFile
      · rw [Lib.toList_data, h]; rfl
      · rw [ba_ne _ _ h]; simp [h]
    have f1 := HF1.out sc
    have f2 := HF1.out a.scheme
    generalize hd1 : decide (sc = sFile) = q1 at *
    generalize hd2 : decide (a.scheme = sFile) = q2 at *
    have HSP1 := HSP.out sc
    have HSP2 := HSP.out a.scheme
    generalize hs1 : special sc = p1 at *
    generalize hs2 : special a.scheme = p2 at *
    have HQ1 : Hid (∀ W, Calls Tryz.prog 29 #[.string ⟨sc.toArray⟩] W fun e w' => e = .returned (.bool p1) ∧ w' = W) := HSP1
    have HQ2 : Hid (∀ W, Calls Tryz.prog 29 #[.string ⟨a.scheme.toArray⟩] W fun e w' => e = .returned (.bool p2) ∧ w' = W) := HSP2
    have HPB1 : Hid (∀ W, Calls Tryz.prog 83 #[.int .i64 a.auth.port, .string ⟨sc.toArray⟩] W fun e w' => e = .returned (.int .i64 (portBesideP a.auth.port sc)) ∧ w' = W) := HPB.out sc
    have HKC : Hid (∀ w1, Below w.heap.size w w1 → w1.cell? ⟨k, 0, none⟩ = some (.string ⟨a.scheme.toArray⟩) ∧ w1.cell? ⟨k, 5, none⟩ = some (.int .i64 a.auth.port) ∧ w1.frozen? ⟨k, 0, none⟩ = false ∧ w1.frozen? ⟨k, 5, none⟩ = false) := fun w1 h1 => ⟨cell_heap (HK.out w1 h1) 0, cell_heap (HK.out w1 h1) 5, frozen_heap (HK.out w1 h1) 0, frozen_heap (HK.out w1 h1) 5⟩
    obtain ⟨sb, hsb⟩ : ∃ sb : ByteArray, sb = ⟨a.scheme.toArray⟩ := ⟨_, rfl⟩
    obtain ⟨nb, hnb⟩ : ∃ nb : ByteArray, nb = ⟨sc.toArray⟩ := ⟨_, rfl⟩
    have HNB : Hid (nb = ⟨sc.toArray⟩) := hnb
    rw [← hsb] at HQ2 HKC f2
    rw [← hnb] at HQ1 HPB1 HC c1 f1
    obtain ⟨po, hpo⟩ : ∃ po : Int, po = a.auth.port := ⟨_, rfl⟩
    rw [← hpo] at HPB1 HKC
    generalize hpp : portBesideP po sc = pp at *
    rw [hpo] at hpp
    generalize (⟨t.toArray⟩ : ByteArray) = tb at *
    generalize (⟨(t ++ [58]).toArray⟩ : ByteArray) = tb2 at *
    clear hk hv henv ht hg1 hg2 HA hsc hzs HSP HSP1 HSP2 HPB HF1 hd1 hd2 hs1 hs2 hsb hpo hnb
    suffices key : ∀ res : Except Int Adr, Hid (p1 ≠ p2 ∨ q1 ≠ q2 → res = Except.error 6) → Hid (¬ (p1 ≠ p2 ∨ q1 ≠ q2) → res = Except.ok { a with scheme := sc, auth := { a.auth with port := portBesideP a.auth.port sc } }) → Calls Tryz.prog 50 #[.pointer (some ⟨k, 0, none⟩), .string tb] w fun e w' => But k w w' ∧ Tryz.SetRes k res e w' from key _ (fun h => if_pos h) (fun h => if_neg h)
    intro res HR1 HR2
    go_enter Tryz.func50, Tryz.ntmps50
    go_wp2_with fail
    refine HC.out.mono ?_
    rintro e w1 ⟨rfl, b1⟩
    have HB : Hid (Below w.heap.size w w1) := b1
    have hg := HG2.out w1 b1
    obtain ⟨d0, d5, r0, r5⟩ := HKC.out w1 b1
    have HK1 : Hid (w1.heap[k]? = some (.cells (adrCells a v) 52 (0, 0))) := HK.out w1 b1
    clear b1
    go_upto_region 4 with fail
    go_cut [35] (fun x wx => x = .bool ((p1 != p2) || (q1 != q2)) ∧ ∃ n, wx = w1.drewN n)
    case first =>
      as_aux_lemma =>
        cases p1 <;> cases p2 <;> cases q1 <;> cases q2
        all_goals
          go_quiet ((first | (go_at_call_of 29 (Value.string nb); exact Calls.quiet_of_same (HQ1.out _)) | (go_at_call_of 29 (Value.string sb); exact Calls.quiet_of_same (HQ2.out _))))
          go_wp2_with (first | (go_at_call_of 29 (Value.string nb); refine (HQ1.out _).mono ?_; rintro e W0 ⟨rfl, hw0⟩; have hw0 := hw0.symm; subst hw0) | (go_at_call_of 29 (Value.string sb); refine (HQ2.out _).mono ?_; rintro e W0 ⟨rfl, hw0⟩; have hw0 := hw0.symm; subst hw0))
          go_meet
          exact ⟨rfl, _, rfl⟩
    case rest =>
    obtain ⟨hx, nq, hwc⟩ := hcut
    have HBC : Hid (Below w.heap.size w wc) := by
      show Below _ _ _
      rw [hwc]
      exact Go.below_drewN HB.out nq
    have hcase : ((p1 ≠ p2 ∨ q1 ≠ q2) ∧ ((p1 != p2) || (q1 != q2)) = true) ∨ (¬ (p1 ≠ p2 ∨ q1 ≠ q2) ∧ ((p1 != p2) || (q1 != q2)) = false) := by
      cases p1 <;> cases p2 <;> cases q1 <;> cases q2 <;> simp
    clear hwc d0 d5 r0 r5 hg HK1 HB
    rcases hcase with ⟨hc, hc2⟩ | ⟨hc, hc2⟩
    · rw [hc2] at hx
      subst hx
      have hres := HR1.out hc
      subst hres
      have hg := HG2.out wc HBC.out
      clear hc hc2 HR1 HR2
      go_wp2_with fail
      refine Calls.mono (HP.out _ _ _ _ _) ?_
      rintro e W0 ⟨rfl, hw0⟩
      have hw0 := hw0.symm
      subst hw0
      go_wp2
      go_ret
      exact ⟨But.of_below HBC.out, _, _, _, _, rfl⟩
    · rw [hc2] at hx
      subst hx
      have hres := HR2.out hc
      subst hres
      obtain ⟨d0, d5, r0, r5⟩ := HKC.out wc HBC.out
      have HK1 : Hid (wc.heap[k]? = some (.cells (adrCells a v) 52 (0, 0))) := HK.out wc HBC.out
      clear hc hc2 HR1 HR2
      go_wp2_with fail
      refine Calls.mono (HPB1.out _) ?_
      rintro e W0 ⟨rfl, hw0⟩
      have hw0 := hw0.symm
      subst hw0
      go_wp2
      go_ret
      rw [HNB.out]
      have hb : But k w ((wc.setCell ⟨k, 0, none⟩ (.string ⟨sc.toArray⟩)).setCell ⟨k, 5, none⟩ (.int .i64 pp)) := ((But.of_below HBC.out).setCell 0 _).setCell 5 _
      refine ⟨hb, rfl, v, ?_, HS.out _ hb⟩
      have := heap_setCell_same _ k 5 _ 52 (.int .i64 pp) (heap_setCell_same wc k 0 _ 52 (.string ⟨sc.toArray⟩) HK1.out)
      rw [← hpp] at this ⊢
      exact this
end Go.Proofs
/-
  What setHost and setPath of package address do.
-/
namespace Go.Proofs
open Go.RowKit Go.Moor

set_option maxHeartbeats 1000000 in
theorem Tryz.tellHostAlone_any (t sc : Bs) (w : World) (ht : t.length ≤ 100000) (henv : Tryz.Env2 w) :
    Calls Tryz.prog 87 #[.string ⟨t.toArray⟩, .string ⟨sc.toArray⟩] w fun e w' => Tryz.TextRes 4 (hostAlone hostTell t sc) e ∧ Below w.heap.size w w' := by
  unfold hostAlone
  by_cases hf : sc = sFile
  · rw [if_pos hf]
    have c2 : ((⟨sc.toArray⟩ : ByteArray).toList == [102, 105, 108, 101]) = true := by rw [Lib.toList_data, hf]; rfl
    have HT : Hid (Calls Tryz.prog 123 #[.string ⟨t.toArray⟩] w fun e w' => Tryz.TextRes 4 (fileHost hostTell t) e ∧ Below w.heap.size w w') := Tryz.tellFileHost_any t w (by omega) henv
    generalize fileHost hostTell t = o at *
    generalize (⟨sc.toArray⟩ : ByteArray) = sb at *
    generalize (⟨t.toArray⟩ : ByteArray) = tb at *
    clear henv ht hf
    go_enter Tryz.func87, Tryz.ntmps87
    go_wp2_with fail
    refine HT.out.mono ?_
    rintro e w1 ⟨hr, b1⟩
    cases o with
    | none =>
      obtain ⟨x, y, te, ve, rfl⟩ := hr
      go_wp2
      go_ret2
      exact ⟨⟨_, _, _, _, rfl⟩, b1⟩
    | some l =>
      have hr : e = .returned (.tuple #[.string ⟨l.toArray⟩, .nilIface]) := hr
      subst hr
      go_wp2
      go_ret2
      exact ⟨rfl, b1⟩
  · rw [if_neg hf]
    have c2 : ((⟨sc.toArray⟩ : ByteArray).toList == [102, 105, 108, 101]) = false := ba_ne _ _ hf
    have HS : Hid (Calls Tryz.prog 29 #[.string ⟨sc.toArray⟩] w fun e w' => e = .returned (.bool (special sc)) ∧ w' = w) := Tryz.isSpecial_any ⟨sc.toArray⟩ w
    have HT : Hid (Calls Tryz.prog 20 #[.string ⟨t.toArray⟩, .bool (special sc)] w fun e w' => Tryz.TellRes ⟨t.toArray⟩ (hostTell t (special sc)) e ∧ Below w.heap.size w w') := Tryz.Tell_any ⟨t.toArray⟩ (special sc) w (by rw [size_mk]; omega) henv.env henv.tz
    generalize hostTell t (special sc) = o at *
    generalize special sc = sp at *
    generalize (⟨sc.toArray⟩ : ByteArray) = sb at *
    generalize (⟨t.toArray⟩ : ByteArray) = tb at *
    clear henv ht hf
    go_enter Tryz.func87, Tryz.ntmps87
    go_wp2_with fail
    refine HS.out.mono ?_
    rintro e W0 ⟨rfl, hw0⟩
    have hw0 := hw0.symm
    subst hw0
    go_wp2_with fail
    refine HT.out.mono ?_
    rintro e w1 ⟨hr, b1⟩
    cases o with
    | none =>
      obtain ⟨te, ve, rfl⟩ := hr
      go_wp2
      go_ret2
      exact ⟨⟨_, _, _, _, rfl⟩, b1⟩
    | some l =>
      have hr : e = .returned (.tuple #[.string ⟨l.toArray⟩, .nilIface]) := hr
      subst hr
      go_wp2
      go_ret2
      exact ⟨rfl, b1⟩

set_option maxHeartbeats 1000000 in
theorem Tryz.hasBeside_any (a : Auth) (w : World) :
    Calls Tryz.prog 86 #[.agg (authCells a)] w fun e w' => e = .returned (.bool (!a.user.isEmpty || !a.pass.isEmpty || decide (a.port ≠ -1))) ∧ Below w.heap.size w w' := by
  have hu : (⟨a.user.toArray⟩ : ByteArray).toList.isEmpty = a.user.isEmpty := mk_empty _
  have hp : (⟨a.pass.toArray⟩ : ByteArray).toList.isEmpty = a.pass.isEmpty := mk_empty _
  unfold authCells
  generalize a.user.isEmpty = q1 at *
  generalize a.pass.isEmpty = q2 at *
  generalize (⟨a.user.toArray⟩ : ByteArray) = ub at *
  generalize (⟨a.pass.toArray⟩ : ByteArray) = pb at *
  generalize (⟨a.host.toArray⟩ : ByteArray) = hb at *
  generalize a.port = po at *
  obtain ⟨W, hW⟩ : ∃ W, W = w.alloc (.cells #[.string ub, .string pb, .bool a.has, .string hb, .int .i64 po] 46) := ⟨_, rfl⟩
  have HBW : Hid (Below w.heap.size w W) := by
    show Below _ _ _
    rw [hW]
    exact (Below.refl _ _).alloc (Nat.le_refl _) _
  have hz : W.heap[w.heap.size]? = some (.cells #[.string ub, .string pb, .bool a.has, .string hb, .int .i64 po] 46 (0, 0)) := by rw [hW]; exact alloc_here w _ _
  have d0 : W.cell? ⟨w.heap.size, 0, none⟩ = some (.string ub) := cell_heap hz 0
  have d1 : W.cell? ⟨w.heap.size, 1, none⟩ = some (.string pb) := cell_heap hz 1
  have d4 : W.cell? ⟨w.heap.size, 4, none⟩ = some (.int .i64 po) := cell_heap hz 4
  clear hz
  go_enter Tryz.func86, Tryz.ntmps86
  go_upto_region 1 with fail
  rw [← hW]
  clear hW
  by_cases h1 : q1 = true
  · subst h1
    by_cases h2 : q2 = true
    · subst h2
      by_cases h3 : po = -1
      · subst h3
        go_wp2
        go_ret
        exact ⟨rfl, HBW.out⟩
      · go_wp2
        go_ret
        refine ⟨?_, HBW.out⟩
        simp [h3]
    · have h2 : q2 = false := by simpa using h2
      subst h2
      go_wp2
      go_ret
      exact ⟨rfl, HBW.out⟩
  · have h1 : q1 = false := by simpa using h1
    subst h1
    go_wp2
    go_ret
    exact ⟨rfl, HBW.out⟩

set_option maxHeartbeats 4000000 in
theorem Tryz.setHost_any (k : Nat) (a : Adr) (v : Value) (t : Bs) (w : World) (ht : t.length ≤ 100000) (hk : w.heap[k]? = some (.cells (adrCells a v) 52 (0, 0))) (hv : SegRow w v a.way.segs) (henv : Tryz.Env3 w) :
    Calls Tryz.prog 52 #[.pointer (some ⟨k, 0, none⟩), .string ⟨t.toArray⟩] w fun e w' => But k w w' ∧ Tryz.SetRes k (setHost hostTell a t) e w' := by
  have hkz : k < w.heap.size := (Array.getElem?_eq_some_iff.1 hk).1
  have hgz := henv.env2.env.size
  have HK : Hid (∀ w1, Below w.heap.size w w1 → w1.heap[k]? = some (.cells (adrCells a v) 52 (0, 0))) := fun w1 h1 => (h1.block k hkz).trans hk
  have HS : Hid (∀ w1, But k w w1 → SegRow w1 v a.way.segs) := fun w1 h1 => segRow_but hv h1 (tagged_off hv.2 hk (by decide))
  have HP : Hid (∀ (x y : ByteArray) te ve W, Calls Tryz.prog 57 #[.string x, .string y, .iface te ve] W fun e w' => e = .returned (.iface 77 (.agg #[.int .i64 6, .string x, .string y, .iface te ve])) ∧ w' = W) := fun x y te ve W => Tryz.errPart_any x y te ve W
  have HQ2 : Hid (∀ W, Calls Tryz.prog 29 #[.string ⟨a.scheme.toArray⟩] W fun e w' => e = .returned (.bool (special a.scheme)) ∧ w' = W) := fun W => Tryz.isSpecial_any ⟨a.scheme.toArray⟩ W
  have HHB : Hid (∀ W, Calls Tryz.prog 86 #[.agg #[.string ⟨a.auth.user.toArray⟩, .string ⟨a.auth.pass.toArray⟩, .bool a.auth.has, .string ⟨a.auth.host.toArray⟩, .int .i64 a.auth.port]] W fun e w' => e = .returned (.bool (!a.auth.user.isEmpty || !a.auth.pass.isEmpty || decide (a.auth.port ≠ -1))) ∧ Below W.heap.size W w') := fun W => Tryz.hasBeside_any a.auth W
  have HT : Hid (∀ w1, Below w.heap.size w w1 → Calls Tryz.prog 87 #[.string ⟨t.toArray⟩, .string ⟨a.scheme.toArray⟩] w1 fun e w' => Tryz.TextRes 4 (hostAlone hostTell t a.scheme) e ∧ Below w.heap.size w w') := by
    intro w1 h1
    refine (Tryz.tellHostAlone_any t a.scheme w1 ht (henv.env2.below h1)).mono ?_
    rintro e w' ⟨he, hb⟩
    exact ⟨he, h1.trans (hb.mono h1.size)⟩
  have HKC : Hid (∀ w1, Below w.heap.size w w1 → w1.cell? ⟨k, 0, none⟩ = some (.string ⟨a.scheme.toArray⟩) ∧ w1.cell? ⟨k, 1, none⟩ = some (.string ⟨a.auth.user.toArray⟩) ∧ w1.cell? ⟨k, 2, none⟩ = some (.string ⟨a.auth.pass.toArray⟩) ∧ w1.cell? ⟨k, 3, none⟩ = some (.bool a.auth.has) ∧ w1.cell? ⟨k, 4, none⟩ = some (.string ⟨a.auth.host.toArray⟩) ∧ w1.cell? ⟨k, 5, none⟩ = some (.int .i64 a.auth.port) ∧ w1.cell? ⟨k, 6, none⟩ = some (.bool a.way.opaq) ∧ w1.frozen? ⟨k, 3, none⟩ = false ∧ w1.frozen? ⟨k, 4, none⟩ = false) := fun w1 h1 => ⟨cell_heap (HK.out w1 h1) 0, cell_heap (HK.out w1 h1) 1, cell_heap (HK.out w1 h1) 2, cell_heap (HK.out w1 h1) 3, cell_heap (HK.out w1 h1) 4, cell_heap (HK.out w1 h1) 5, cell_heap (HK.out w1 h1) 6, frozen_heap (HK.out w1 h1) 3, frozen_heap (HK.out w1 h1) 4⟩
  obtain ⟨te1, ve1, hg1⟩ := henv.eOpaq
  obtain ⟨te2, ve2, hg2⟩ := henv.eBeside
  have HG2 : Hid (∀ w1, Below w.heap.size w w1 → w1.cell? ⟨7, 0, none⟩ = some (.iface te2 ve2)) := fun w1 h1 => (h1.cell (p := ⟨7, 0, none⟩) (show 7 < w.heap.size by omega)).trans hg2
  have ht0 : (⟨t.toArray⟩ : ByteArray).toList.isEmpty = t.isEmpty := mk_empty t
  obtain ⟨d0, d1, d2, d3, d4, d5, d6, _, _⟩ := HKC.out w (Below.refl _ _)
  unfold setHost
  by_cases ho : a.way.opaq = true
  · rw [if_pos ho]
    rw [ho] at d6
    generalize (⟨t.toArray⟩ : ByteArray) = tb at *
    clear hk hv henv ht hg2 HT HHB HQ2 d0 d1 d2 d3 d4 d5
    go_enter Tryz.func52, Tryz.ntmps52
    go_wp2_with fail
    refine Calls.mono (HP.out _ _ _ _ _) ?_
    rintro e W0 ⟨rfl, hw0⟩
    have hw0 := hw0.symm
    subst hw0
    go_wp2
    go_ret
    exact ⟨But.of_below (Below.refl _ _), _, _, _, _, rfl⟩
  · rw [if_neg ho]
    have ho : a.way.opaq = false := by simpa using ho
    rw [ho] at d6
    have HX : Hid ((t = [] ∧ special a.scheme = false ∧ (a.auth.user ≠ [] ∨ a.auth.pass ≠ [] ∨ a.auth.port ≠ -1)) ↔ (t.isEmpty = true ∧ special a.scheme = false ∧ (!a.auth.user.isEmpty || !a.auth.pass.isEmpty || decide (a.auth.port ≠ -1)) = true)) := by
      show _ ↔ _
      simp only [List.isEmpty_iff, Bool.or_eq_true, Bool.not_eq_true', decide_eq_true_eq, or_assoc, List.isEmpty_eq_false_iff]
    generalize (!a.auth.user.isEmpty || !a.auth.pass.isEmpty || decide (a.auth.port ≠ -1)) = qb at *
    generalize t.isEmpty = qe at *
    obtain ⟨tb, htb⟩ : ∃ tb : ByteArray, tb = ⟨t.toArray⟩ := ⟨_, rfl⟩
    rw [← htb] at HT ht0 ⊢
    by_cases hx : t = [] ∧ special a.scheme = false ∧ (a.auth.user ≠ [] ∨ a.auth.pass ≠ [] ∨ a.auth.port ≠ -1)
    · rw [if_pos hx]
      obtain ⟨hq1, hq2, hq3⟩ := HX.out.1 hx
      rw [hq1] at ht0
      rw [hq2] at HQ2
      rw [hq3] at HHB
      generalize (⟨a.scheme.toArray⟩ : ByteArray) = sb at *
      generalize (⟨a.auth.user.toArray⟩ : ByteArray) = ub at *
      generalize (⟨a.auth.pass.toArray⟩ : ByteArray) = pb at *
      generalize (⟨a.auth.host.toArray⟩ : ByteArray) = hb at *
      clear hk hv henv ht hg1 hg2 HT hx hq1 hq2 hq3 HX htb
      go_enter Tryz.func52, Tryz.ntmps52
      go_wp2_with fail
      refine Calls.mono (HQ2.out _) ?_
      rintro e W0 ⟨rfl, hw0⟩
      have hw0 := hw0.symm
      subst hw0
      go_wp2_with fail
      refine Calls.mono (HHB.out _) ?_
      rintro e w1 ⟨rfl, b1⟩
      have hg := HG2.out w1 b1
      go_wp2_with fail
      refine Calls.mono (HP.out _ _ _ _ _) ?_
      rintro e W0 ⟨rfl, hw0⟩
      have hw0 := hw0.symm
      subst hw0
      go_wp2
      go_ret
      exact ⟨But.of_below b1, _, _, _, _, rfl⟩
    · rw [if_neg hx]
      have hnq : ¬ (qe = true ∧ special a.scheme = false ∧ qb = true) := fun h => hx (HX.out.2 h)
      have HNQ : Hid _ := hnq
      have HRR : Hid (∀ w1, Below w.heap.size w w1 → Calls Tryz.prog 87 #[.string tb, .string ⟨a.scheme.toArray⟩] w1 fun e w' => Tryz.TextRes 4 (hostAlone hostTell t a.scheme) e ∧ Below w.heap.size w w') := HT.out
      generalize special a.scheme = qs at *
      generalize hostAlone hostTell t a.scheme = oh at *
      have HKX : Hid (∀ w1 (l : Bs), Below w.heap.size w w1 → ((w1.setCell ⟨k, 3, none⟩ (.bool true)).setCell ⟨k, 4, none⟩ (.string ⟨l.toArray⟩)).heap[k]? = some (.cells (adrCells { a with auth := { a.auth with has := true, host := l } } v) 52 (0, 0))) := fun w1 l h1 => heap_setCell_same _ k 4 _ 52 _ (heap_setCell_same w1 k 3 _ 52 (.bool true) (HK.out w1 h1))
      generalize (⟨a.scheme.toArray⟩ : ByteArray) = sb at *
      generalize (⟨a.auth.user.toArray⟩ : ByteArray) = ub at *
      generalize (⟨a.auth.pass.toArray⟩ : ByteArray) = pb at *
      generalize (⟨a.auth.host.toArray⟩ : ByteArray) = hb at *
      clear hk hv henv ht hg1 hg2 HT hx hnq HX htb
      have hcase : qe = false ∨ (qe = true ∧ qs = true) ∨ (qe = true ∧ qs = false ∧ qb = false) := by
        cases qe <;> cases qs <;> cases qb <;> simp_all [HNQ.out]
      clear HNQ
      rcases hcase with rfl | ⟨rfl, rfl⟩ | ⟨rfl, rfl, rfl⟩
      · have HB0 : Hid (Below w.heap.size w w) := Below.refl _ _
        go_enter Tryz.func52, Tryz.ntmps52
        go_wp2_with fail
        refine Calls.mono (HRR.out _ HB0.out) ?_
        rintro e w2 ⟨hr, b2⟩
        cases oh with
        | none =>
          obtain ⟨x, y, te, ve, rfl⟩ := hr
          clear d0 d1 d2 d3 d4 d5 d6
          go_wp2
          go_ret
          exact ⟨But.of_below b2, _, _, _, _, rfl⟩
        | some l =>
          have hr : e = .returned (.tuple #[.string ⟨l.toArray⟩, .nilIface]) := hr
          subst hr
          have HB2 : Hid (Below w.heap.size w w2) := b2
          obtain ⟨_, _, _, e3, e4, _, _, r3, r4⟩ := HKC.out w2 b2
          clear d0 d1 d2 d3 d4 d5 d6 b2
          go_wp2
          go_ret
          have hbut : But k w ((w2.setCell ⟨k, 3, none⟩ (.bool true)).setCell ⟨k, 4, none⟩ (.string ⟨l.toArray⟩)) := ((But.of_below HB2.out).setCell 3 _).setCell 4 _
          exact ⟨hbut, rfl, v, HKX.out w2 l HB2.out, HS.out _ hbut⟩
      · have HB0 : Hid (Below w.heap.size w w) := Below.refl _ _
        go_enter Tryz.func52, Tryz.ntmps52
        go_wp2_with fail
        refine Calls.mono (HQ2.out _) ?_
        rintro e W0 ⟨rfl, hw0⟩
        have hw0 := hw0.symm
        subst hw0
        go_wp2_with fail
        refine Calls.mono (HRR.out _ HB0.out) ?_
        rintro e w2 ⟨hr, b2⟩
        cases oh with
        | none =>
          obtain ⟨x, y, te, ve, rfl⟩ := hr
          clear d0 d1 d2 d3 d4 d5 d6
          go_wp2
          go_ret
          exact ⟨But.of_below b2, _, _, _, _, rfl⟩
        | some l =>
          have hr : e = .returned (.tuple #[.string ⟨l.toArray⟩, .nilIface]) := hr
          subst hr
          have HB2 : Hid (Below w.heap.size w w2) := b2
          obtain ⟨_, _, _, e3, e4, _, _, r3, r4⟩ := HKC.out w2 b2
          clear d0 d1 d2 d3 d4 d5 d6 b2
          go_wp2
          go_ret
          have hbut : But k w ((w2.setCell ⟨k, 3, none⟩ (.bool true)).setCell ⟨k, 4, none⟩ (.string ⟨l.toArray⟩)) := ((But.of_below HB2.out).setCell 3 _).setCell 4 _
          exact ⟨hbut, rfl, v, HKX.out w2 l HB2.out, HS.out _ hbut⟩
      · go_enter Tryz.func52, Tryz.ntmps52
        go_wp2_with fail
        refine Calls.mono (HQ2.out _) ?_
        rintro e W0 ⟨rfl, hw0⟩
        have hw0 := hw0.symm
        subst hw0
        go_wp2_with fail
        refine Calls.mono (HHB.out _) ?_
        rintro e w1 ⟨rfl, b1⟩
        have HB0 : Hid (Below w.heap.size w w1) := b1
        obtain ⟨d0, d1, d2, d3, d4, d5, d6, _, _⟩ := HKC.out w1 b1
        clear b1
        go_wp2_with fail
        refine Calls.mono (HRR.out _ HB0.out) ?_
        rintro e w2 ⟨hr, b2⟩
        cases oh with
        | none =>
          obtain ⟨x, y, te, ve, rfl⟩ := hr
          clear d0 d1 d2 d3 d4 d5 d6
          go_wp2
          go_ret
          exact ⟨But.of_below b2, _, _, _, _, rfl⟩
        | some l =>
          have hr : e = .returned (.tuple #[.string ⟨l.toArray⟩, .nilIface]) := hr
          subst hr
          have HB2 : Hid (Below w.heap.size w w2) := b2
          obtain ⟨_, _, _, e3, e4, _, _, r3, r4⟩ := HKC.out w2 b2
          clear d0 d1 d2 d3 d4 d5 d6 b2
          go_wp2
          go_ret
          have hbut : But k w ((w2.setCell ⟨k, 3, none⟩ (.bool true)).setCell ⟨k, 4, none⟩ (.string ⟨l.toArray⟩)) := ((But.of_below HB2.out).setCell 3 _).setCell 4 _
          exact ⟨hbut, rfl, v, HKX.out w2 l HB2.out, HS.out _ hbut⟩

set_option maxHeartbeats 4000000 in
theorem Tryz.setPath_any (k : Nat) (a : Adr) (v : Value) (t : Bs) (w : World) (ht : t.length ≤ 100000) (hk : w.heap[k]? = some (.cells (adrCells a v) 52 (0, 0))) (henv : Tryz.Env3 w) :
    Calls Tryz.prog 53 #[.pointer (some ⟨k, 0, none⟩), .string ⟨t.toArray⟩] w fun e w' => But k w w' ∧ Tryz.SetRes k (setPath a t) e w' := by
  have hkz : k < w.heap.size := (Array.getElem?_eq_some_iff.1 hk).1
  have HP : Hid (∀ (x y : ByteArray) te ve W, Calls Tryz.prog 57 #[.string x, .string y, .iface te ve] W fun e w' => e = .returned (.iface 77 (.agg #[.int .i64 6, .string x, .string y, .iface te ve])) ∧ w' = W) := fun x y te ve W => Tryz.errPart_any x y te ve W
  have HE : Hid (Calls Tryz.prog 89 #[.string ⟨a.scheme.toArray⟩, .string ⟨t.toArray⟩] w fun e w' => e = .returned (.string ⟨(evenSlashes a.scheme t).toArray⟩) ∧ Below w.heap.size w w') := Tryz.evenSlashes_any ⟨a.scheme.toArray⟩ ⟨t.toArray⟩ w (by rw [size_mk]; omega) henv.env2.env
  have HRP : Hid (∀ w1, Below w.heap.size w w1 → Calls Tryz.prog 88 #[.pointer (some ⟨k, 0, none⟩), .slice none 0 0, .string ⟨(evenSlashes a.scheme t).toArray⟩] w1 fun e w' => e = .returned (.tuple #[]) ∧ But k w w' ∧ ∃ u, w'.heap[k]? = some (.cells (adrCells { a with way := readWay a.scheme [] (evenSlashes a.scheme t) } u) 52 (0, 0)) ∧ SegRow w' u (readSegs a.scheme [] (evenSlashes a.scheme t))) := by
    intro w1 h1
    refine (Tryz.readPath_any k a.scheme (evenSlashes a.scheme t) _ _ _ _ _ _ _ _ _ _ _ _ none 0 [] w1 (by rw [evenSlashes_len]; omega) (by simp) (by simp) ((h1.block k hkz).trans hk) (by simp) (henv.env2.below h1)).mono ?_
    rintro e w' ⟨rfl, hb, u, h1', h2'⟩
    exact ⟨rfl, (But.of_below h1).trans hb, u, h1', own_seg h2'⟩
  obtain ⟨te1, ve1, hg1⟩ := henv.eOpaq
  obtain ⟨te2, ve2, hg2⟩ := henv.env2.eHost
  have d0 : w.cell? ⟨k, 0, none⟩ = some (.string ⟨a.scheme.toArray⟩) := cell_heap hk 0
  have d3 : w.cell? ⟨k, 3, none⟩ = some (.bool a.auth.has) := cell_heap hk 3
  have d6 : w.cell? ⟨k, 6, none⟩ = some (.bool a.way.opaq) := cell_heap hk 6
  have ht0 : (⟨t.toArray⟩ : ByteArray).toList.isEmpty = t.isEmpty := mk_empty t
  unfold setPath
  by_cases ho : a.way.opaq = true
  · rw [if_pos ho]
    rw [ho] at d6
    generalize (⟨t.toArray⟩ : ByteArray) = tb at *
    clear hk henv ht hg2 HE HRP d0 d3
    go_enter Tryz.func53, Tryz.ntmps53
    go_wp2_with fail
    refine Calls.mono (HP.out _ _ _ _ _) ?_
    rintro e W0 ⟨rfl, hw0⟩
    have hw0 := hw0.symm
    subst hw0
    go_wp2
    go_ret
    exact ⟨But.of_below (Below.refl _ _), _, _, _, _, rfl⟩
  · rw [if_neg ho]
    have ho : a.way.opaq = false := by simpa using ho
    rw [ho] at d6
    by_cases hx : a.auth.has = false ∧ t = []
    · rw [if_pos hx]
      have hq : t.isEmpty = true := by rw [hx.2]; rfl
      rw [hq] at ht0
      rw [hx.1] at d3
      generalize (⟨t.toArray⟩ : ByteArray) = tb at *
      clear hk henv ht hg1 HE HRP d0
      go_enter Tryz.func53, Tryz.ntmps53
      go_wp2_with fail
      refine Calls.mono (HP.out _ _ _ _ _) ?_
      rintro e W0 ⟨rfl, hw0⟩
      have hw0 := hw0.symm
      subst hw0
      go_wp2
      go_ret
      exact ⟨But.of_below (Below.refl _ _), _, _, _, _, rfl⟩
    · rw [if_neg hx]
      have hc : a.auth.has = true ∨ (a.auth.has = false ∧ t.isEmpty = false) := by
        cases hh : a.auth.has with
        | true => exact Or.inl rfl
        | false =>
          refine Or.inr ⟨rfl, ?_⟩
          cases t with
          | nil => exact absurd ⟨hh, rfl⟩ hx
          | cons => rfl
      have HC : Hid _ := hc
      generalize (⟨t.toArray⟩ : ByteArray) = tb at *
      generalize (⟨a.scheme.toArray⟩ : ByteArray) = sb at *
      generalize (⟨(evenSlashes a.scheme t).toArray⟩ : ByteArray) = eb at *
      clear hk henv ht hg1 hg2 HP hc hx
      rcases HC.out with hc | ⟨hc, hc2⟩
      all_goals
        rw [hc] at d3
        try rw [hc2] at ht0
        clear HC
        go_enter Tryz.func53, Tryz.ntmps53
        go_wp2_with fail
        refine HE.out.mono ?_
        rintro e w1 ⟨rfl, b1⟩
        clear d0 d3 d6
        go_wp2_with fail
        refine (HRP.out w1 b1).mono ?_
        rintro e w2 ⟨rfl, hb, u, hu1, hu2⟩
        have HF : Hid (Tryz.SetRes k (.ok { a with way := readWay a.scheme [] (evenSlashes a.scheme t) }) (.returned .nilIface) w2) := ⟨rfl, u, hu1, hu2⟩
        have HB : Hid (But k w w2) := hb
        clear hb hu1 hu2 b1
        go_wp2
        go_ret
        exact ⟨HB.out, HF.out⟩
end Go.Proofs
