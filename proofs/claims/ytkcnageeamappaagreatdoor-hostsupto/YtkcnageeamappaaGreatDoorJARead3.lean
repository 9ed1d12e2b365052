/-
  What ReadBeside of package address answers.
-/
import Derived.Test.YtkcnageeamappaaGreatDoorJABound
namespace Go.Proofs
open Go.RowKit Go.Moor

/-- An address and no error, or an address of noughts and an error that holds the number, by itself or within an address.Error. -/
def Tryz.ErrOf (n : Int) (v : Value) : Prop :=
  (∃ (x y : ByteArray) (te : TypeId) (ve : Value), v = .iface 96 (.agg #[.int .i64 n, .string x, .string y, .iface te ve])) ∨
  (∃ (z x y : ByteArray) (te : TypeId) (ve : Value), v = .iface 104 (.agg #[.string z, .iface 96 (.agg #[.int .i64 n, .string x, .string y, .iface te ve])]))
def Tryz.AnyRes (o : Except Int Adr) (e : Ending) (w' : World) : Prop :=
  match o with
  | .error n => ∃ v, e = .returned (.tuple #[.agg zeroAdr, v]) ∧ Tryz.ErrOf n v
  | .ok a => ∃ v, e = .returned (.tuple #[.agg (adrCells a v), .nilIface]) ∧ SegRow w' v a.way.segs
theorem Tryz.readRes_any {l : Bs} {o : Except Int Adr} {e : Ending} {w' : World} (h : Tryz.ReadRes l o e w') : Tryz.AnyRes o e w' := by
  cases o with
  | error n => obtain ⟨x, y, te, ve, rfl⟩ := h; exact ⟨_, rfl, Or.inr ⟨_, x, y, te, ve, rfl⟩⟩
  | ok a => exact h
theorem Tryz.anyRes_ret {o : Except Int Adr} {e : Ending} {w' : World} (h : Tryz.AnyRes o e w') : ∃ cs v, e = .returned (.tuple #[.agg cs, v]) ∧ cs.size = 13 ∧ cs.all (·.oneCell') = true := by
  cases o with
  | error n => obtain ⟨v, rfl, h1⟩ := h; exact ⟨_, _, rfl, rfl, zeroAdr_one⟩
  | ok a => obtain ⟨v, rfl, ⟨sp, cap, rfl, _⟩, _⟩ := h; exact ⟨_, _, rfl, rfl, adrCells_one _ _ rfl⟩
theorem Tryz.anyRes_setRow {o : Except Int Adr} {e : Ending} {w' : World} (h : Tryz.AnyRes o e w') (g : Nat) (old cs : Array Value) (hg : w'.heap[g]? = some (.cells old 77 (0, 0))) : Tryz.AnyRes o e (w'.setRow g cs) := by
  cases o with
  | error n => exact h
  | ok a =>
    obtain ⟨v, rfl, hs⟩ := h
    refine ⟨v, rfl, ?_⟩
    have hoff := tagged_off hs.2 hg (by decide)
    have hbut : But g w' (w'.setRow g cs) := ⟨rfl, rfl, rfl, by simp, fun j _ hn => setRow_other w' g cs j hn⟩
    exact segRow_but hs hbut hoff
/-- What is at hand where a result has come and is to be stored. -/
theorem Tryz.fin_any (B : Nat) (w : World) (hB : w.heap.size ≤ B) (res : Except Int Adr) (e : Ending) (w2 : World) (h : Tryz.AnyRes res e w2 ∧ Below w.heap.size w w2 ∧ w2.heap[B]? = some (.cells zeroAdr 77 (0, 0))) : ∃ cs v, e = .returned (.tuple #[.agg cs, v]) ∧ Hid (w2.heap[B]? = some (.cells zeroAdr 77 (0, 0))) ∧ Hid ((Tryz.prog.info? 77).map (·.size) = some cs.size) ∧ Hid (zeroAdr.size = cs.size) ∧ Hid (cs.all (·.oneCell') = true) ∧ Hid (Tryz.AnyRes res (.returned (.tuple #[.agg cs, v])) (w2.setRow B cs) ∧ Below w.heap.size w (w2.setRow B cs)) := by
  obtain ⟨h1, h3, h4⟩ := h
  obtain ⟨cs, v, rfl, h5, h6⟩ := Tryz.anyRes_ret h1
  exact ⟨cs, v, rfl, h4, (by show _ = _; rw [h5]; exact Tryz.sizeAdr), (by show _ = _; rw [h5]; rfl), h6, Tryz.anyRes_setRow h1 _ _ cs h4, below_setRow h3 hB _⟩

set_option maxHeartbeats 1000000 in
set_option maxRecDepth 8000 in
theorem Tryz.ReadBeside_any (l b : Bs) (w : World) (hl : l.length ≤ 2000) (hb : b.length ≤ 2000) (henv : Tryz.Env2 w) :
    Calls Tryz.prog 35 #[.string ⟨l.toArray⟩, .string ⟨b.toArray⟩] w fun e w' => Tryz.AnyRes (readBeside hostTell l b) e w' ∧ Below w.heap.size w w' := by
  obtain ⟨W, hW⟩ : ∃ W, W = w.alloc (.cells zeroAdr 77) := ⟨_, rfl⟩
  have hBW : Below w.heap.size w W := by
    rw [hW]
    exact (Below.refl _ _).alloc (Nat.le_refl _) _
  have HBW : Hid (Below w.heap.size w W) := hBW
  have hsize : W.heap.size = w.heap.size + 1 := by rw [hW]; simp
  have HSZ : Hid (W.heap.size = w.heap.size + 1) := hsize
  have hz0 : W.heap[w.heap.size]? = some (.cells zeroAdr 77 (0, 0)) := by rw [hW]; exact alloc_here w _ _
  have HZ : Hid (∀ w1, Below W.heap.size W w1 → w1.heap[w.heap.size]? = some (.cells zeroAdr 77 (0, 0)) ∧ Below w.heap.size w w1) := fun w1 h1 => ⟨(h1.block _ (by omega)).trans hz0, HBW.out.trans (h1.mono (by omega))⟩
  have HR : Hid (∀ (x : Bs) (ob : Option Adr) (bp : Option Go.Addr) (w1 : World), x.length ≤ 100000 → Below W.heap.size W w1 → Tryz.BaseAt w1 bp ob → Calls Tryz.prog 58 #[.string ⟨x.toArray⟩, .pointer bp] w1 fun e w' => Tryz.ReadRes x (readAddr hostTell x ob) e w' ∧ Below W.heap.size W w') := by
    intro x ob bp w1 hx h1 hba
    refine (Tryz.Read_any x ob bp w1 hx hba ((henv.below hBW).below h1)).mono ?_
    rintro e w' ⟨hr, hb⟩
    exact ⟨hr, h1.trans (hb.mono h1.size)⟩
  have HFIN : Hid (∀ (res : Except Int Adr) (e : Ending) (w2 : World), Tryz.AnyRes res e w2 ∧ Below w.heap.size w w2 ∧ w2.heap[w.heap.size]? = some (.cells zeroAdr 77 (0, 0)) → _) := fun res e w2 h => Tryz.fin_any w.heap.size w (Nat.le_refl _) res e w2 h
  have HLL : Hid (l.length ≤ 100000) := by show _ ≤ _; omega
  have HLB : Hid (b.length ≤ 100000) := by show _ ≤ _; omega
  obtain ⟨t, htd⟩ : ∃ t : ByteArray, t = ⟨l.toArray⟩ := ⟨_, rfl⟩
  have HT : Hid (t = ⟨l.toArray⟩) := htd
  rw [← htd]
  by_cases hbe : b = []
  · have e0 := empty_yes
    subst hbe
    have HE : Hid (readBeside hostTell l [] = readAddr hostTell l none) := rfl
    have HRN : Hid (Calls Tryz.prog 58 #[.string t, .pointer none] W fun e w' => Tryz.AnyRes (readAddr hostTell l none) e w' ∧ Below w.heap.size w w' ∧ w'.heap[w.heap.size]? = some (.cells zeroAdr 77 (0, 0))) := by
      rw [htd]
      refine (HR.out l none none W HLL.out (Below.refl _ _) rfl).mono ?_
      rintro e w' ⟨hr, hb'⟩
      exact ⟨Tryz.readRes_any hr, (HZ.out w' hb').2, (HZ.out w' hb').1⟩
    clear hl hb henv hBW hsize hz0 htd
    go_enter Tryz.func35, Tryz.ntmps35
    go_upto_region 1 with fail
    unfold zeroAdr at hW
    rw [← hW]
    clear hW
    go_wp2_with fail
    refine Calls.mono HRN.out ?_
    intro e w2 hr
    obtain ⟨cs, v, rfl, HN, HZS, HZO, HON, HF⟩ := HFIN.out _ e w2 hr
    clear hr
    go_wp2_with (refine wpList_store_row rfl 77 _ _ rfl w.heap.size cs rfl rfl 77 zeroAdr HN.out HZS.out HZO.out HON.out ?_)
    (try simp only [Exit.inBlock, Exit.then])
    have hld := run_loadVar_row (P := Tryz.prog) (w2.setRow w.heap.size cs) w.heap.size 77 77 cs (0, 0) _ (setRow_heap w2 w.heap.size zeroAdr cs 77 (0, 0) HN.out) Tryz.underlying77 rfl HZS.out
    rw [HE.out]
    refine bodyPost_ret (v := .tuple #[.agg cs, v]) ?_ rfl HF.out
    rw [results_cell_tmp rfl]
    simp [asAddr, Result.andThen, hld]
  · have e0 := empty_no _ hbe
    have HE : Hid (readBeside hostTell l b = match readAddr hostTell b none with | .error _ => .error 2 | .ok a => readAddr hostTell l (some a)) := by
      show _ = _
      unfold readBeside
      rw [if_neg hbe]
      rfl
    have HSB : Hid (∀ a, readAddr hostTell b none = .ok a → Small 20000 2001 a) := fun a h => (readAddr_small b none 20000 0 a (by omega) (by simp) h |> fun h => ⟨h.scheme, h.user, h.pass, h.host, h.port, h.text, by have := h.count; omega, h.segs, h.query, h.frag⟩)
    have HRN : Hid (Calls Tryz.prog 58 #[.string ⟨b.toArray⟩, .pointer none] W fun e w' => Tryz.ReadRes b (readAddr hostTell b none) e w' ∧ Below W.heap.size W w') := HR.out b none none W HLB.out (Below.refl _ _) rfl
    obtain ⟨bt, hbt⟩ : ∃ bt : ByteArray, bt = ⟨b.toArray⟩ := ⟨_, rfl⟩
    rw [← hbt] at e0 HRN ⊢
    have HBT : Hid (bt = ⟨b.toArray⟩) := hbt
    clear hl hb henv hBW hsize hz0 htd hbt hbe
    go_enter Tryz.func35, Tryz.ntmps35
    go_upto_region 1 with fail
    unfold zeroAdr at hW
    rw [← hW]
    clear hW
    go_wp2_with fail
    refine Calls.mono HRN.out ?_
    rintro e w3 ⟨hr, b3⟩
    have HB3 : Hid (Below W.heap.size W w3) := b3
    have HN3 : Hid (w3.heap[w.heap.size]? = some (.cells zeroAdr 77 (0, 0)) ∧ Below w.heap.size w w3) := HZ.out w3 b3
    have HK : Hid ((w3.alloc (.cells zeroAdr 77)).heap[w3.heap.size]? = some (.cells zeroAdr 77 (0, 0))) := alloc_here w3 _ _
    have m3 : w3.heap.size ≠ w.heap.size := by have := b3.size; have := HSZ.out; omega
    have HM3 : Hid (w.heap.size ≠ w3.heap.size ∧ w.heap.size < w3.heap.size) := ⟨m3.symm, by have := b3.size; have := HSZ.out; omega⟩
    cases hres : readAddr hostTell b none with
    | error n =>
      rw [hres] at hr
      have HE2 : Hid (readBeside hostTell l b = .error 2) := by show _ = _; rw [HE.out, hres]
      obtain ⟨x, y, te, ve, rfl⟩ := hr
      have HW4 : Hid (((w3.alloc (.cells zeroAdr 77)).setRow w3.heap.size zeroAdr).heap[w.heap.size]? = some (.cells zeroAdr 77 (0, 0)) ∧ Below w.heap.size w ((w3.alloc (.cells zeroAdr 77)).setRow w3.heap.size zeroAdr)) := by
        refine ⟨?_, below_setRow (HN3.out.2.alloc HN3.out.2.size _) (Nat.le_of_lt HM3.out.2) _⟩
        rw [setRow_other _ _ _ _ HM3.out.1]
        exact ((Below.refl w3.heap.size w3).alloc (Nat.le_refl _) _).block _ HM3.out.2 |>.trans HN3.out.1
      clear b3 hres
      rw [← HBT.out]
      go_wp2_with (first | refine wpList_store_row rfl 77 _ _ rfl w3.heap.size zeroAdr rfl rfl 77 zeroAdr HK.out Tryz.sizeAdr rfl zeroAdr_one ?_ | refine wpList_store_row rfl 77 _ _ rfl w.heap.size zeroAdr rfl rfl 77 zeroAdr HW4.out.1 Tryz.sizeAdr rfl zeroAdr_one ?_)
      (try simp only [Exit.inBlock, Exit.then])
      have hld := run_loadVar_row (P := Tryz.prog) (((w3.alloc (.cells zeroAdr 77)).setRow w3.heap.size zeroAdr).setRow w.heap.size zeroAdr) w.heap.size 77 77 zeroAdr (0, 0) _ (setRow_heap _ w.heap.size zeroAdr zeroAdr 77 (0, 0) HW4.out.1) Tryz.underlying77 rfl Tryz.sizeAdr
      rw [HE2.out]
      refine bodyPost_ret (v := .tuple #[.agg zeroAdr, .iface 96 (.agg #[.int .i64 2, .string ⟨#[98, 97, 115, 101]⟩, .string bt, .iface 104 (.agg #[.string bt, .iface 96 (.agg #[.int .i64 n, .string x, .string y, .iface te ve])])])]) ?_ rfl ⟨⟨_, rfl, Or.inl ⟨_, _, _, _, rfl⟩⟩, below_setRow HW4.out.2 (Nat.le_refl _) _⟩
      rw [results_cell_tmp rfl]
      simp only [zeroAdr] at hld
      simp [asAddr, Result.andThen, hld, zeroAdr]
    | ok a =>
      rw [hres] at hr
      have HE2 : Hid (readBeside hostTell l b = readAddr hostTell l (some a)) := by show _ = _; rw [HE.out, hres]
      have hsm := HSB.out a hres
      obtain ⟨v, rfl, hs⟩ := hr
      have hv1 : v.oneCell' = true := by obtain ⟨⟨sp, cap, rfl, _⟩, _⟩ := hs; rfl
      obtain ⟨V, hV⟩ : ∃ V, V = (w3.alloc (.cells zeroAdr 77)).setRow w3.heap.size (adrCells a v) := ⟨_, rfl⟩
      have hVk : V.heap[w3.heap.size]? = some (.cells (adrCells a v) 77 (0, 0)) := by rw [hV]; exact setRow_heap _ w3.heap.size zeroAdr (adrCells a v) 77 (0, 0) HK.out
      have hVB : Below w3.heap.size w3 V := by rw [hV]; exact below_setRow ((Below.refl w3.heap.size w3).alloc (Nat.le_refl _) _) (Nat.le_refl _) _
      have hVA : Tryz.BaseAt V (some ⟨w3.heap.size, 0, none⟩) (some a) := ⟨w3.heap.size, v, rfl, hVk, segRow_below hs hVB, by have := hsm.count; omega, fun x hx => by have := hsm.segs x hx; omega⟩
      have hVW : Below W.heap.size W V := HB3.out.trans (hVB.mono HB3.out.size)
      have HRM : Hid (Calls Tryz.prog 58 #[.string t, .pointer (some ⟨w3.heap.size, 0, none⟩)] V fun e w' => Tryz.AnyRes (readAddr hostTell l (some a)) e w' ∧ Below w.heap.size w w' ∧ w'.heap[w.heap.size]? = some (.cells zeroAdr 77 (0, 0))) := by
        rw [HT.out]
        refine (HR.out l (some a) _ V HLL.out hVW hVA).mono ?_
        rintro e w' ⟨hr, hb'⟩
        exact ⟨Tryz.readRes_any hr, (HZ.out w' hb').2, (HZ.out w' hb').1⟩
      have HON : Hid ((adrCells a v).all (·.oneCell') = true) := adrCells_one _ _ hv1
      have HZS : Hid ((Tryz.prog.info? 77).map (·.size) = some (adrCells a v).size) := Tryz.sizeAdr
      have HZO : Hid (zeroAdr.size = (adrCells a v).size) := rfl
      have HV : Hid (V = (w3.alloc (.cells zeroAdr 77)).setRow w3.heap.size (adrCells a v)) := hV
      generalize adrCells a v = CS at *
      clear b3 hres hs hV hVk hVB hVA hVW hsm hv1
      go_wp2_with (refine wpList_store_row rfl 77 _ _ rfl w3.heap.size CS rfl rfl 77 zeroAdr HK.out HZS.out HZO.out HON.out ?_)
      have HRM2 := HRM.out
      rw [HV.out] at HRM2
      refine Calls.mono HRM2 ?_
      intro e w2 hr
      clear HRM2 HRM HV
      obtain ⟨cs, v, rfl, HN, HZS, HZO, HON, HF⟩ := HFIN.out _ e w2 hr
      clear hr
      go_wp2_with (refine wpList_store_row rfl 77 _ _ rfl w.heap.size cs rfl rfl 77 zeroAdr HN.out HZS.out HZO.out HON.out ?_)
      (try simp only [Exit.inBlock, Exit.then])
      have hld := run_loadVar_row (P := Tryz.prog) (w2.setRow w.heap.size cs) w.heap.size 77 77 cs (0, 0) _ (setRow_heap w2 w.heap.size zeroAdr cs 77 (0, 0) HN.out) Tryz.underlying77 rfl HZS.out
      rw [HE2.out]
      refine bodyPost_ret (v := .tuple #[.agg cs, v]) ?_ rfl HF.out
      rw [results_cell_tmp rfl]
      simp [asAddr, Result.andThen, hld]
end Go.Proofs
