/-
  What Read of package address answers.
-/
import Derived.Test.YtkcnageeamappaaGreatDoorJARead
import Derived.Test.YtkcnageeamappaaGreatDoorJAOther
namespace Go.Moor
open Go
theorem strip_len (t : Bs) : (stripB t).length ≤ t.length := by
  unfold stripB trimB
  have h1 : ∀ x : Bs, (x.dropWhile blankB).length ≤ x.length := fun x => (List.dropWhile_sublist _).length_le
  have h2 := h1 t
  have h3 := h1 (t.dropWhile blankB).reverse
  rw [List.length_reverse] at h3
  refine Nat.le_trans (List.length_filter_le _ _) ?_
  rw [List.length_reverse]
  omega
theorem cutOpt_len (c : UInt8) (t : Bs) : (cutOpt c t).1.length ≤ t.length ∧ ((cutOpt c t).2.getD []).length ≤ t.length := by
  unfold cutOpt
  cases h : cutB c t with
  | none => simp
  | some p =>
    have := Go.Proofs.cutB_parts c _ p.1 p.2 h
    have hl : t.length = p.1.length + (p.2.length + 1) := by rw [this]; simp
    simp
    omega
theorem cutScheme_len (t : Bs) : (cutScheme t).2.length ≤ t.length ∧ (cutScheme t).1.length ≤ t.length := by
  unfold cutScheme
  cases h : cutB 58 t with
  | none => simp
  | some p =>
    have := Go.Proofs.cutB_parts 58 _ p.1 p.2 h
    have hl : t.length = p.1.length + (p.2.length + 1) := by rw [this]; simp
    simp only
    split
    · simp [Lib.toLowerA]
      omega
    · simp
theorem cutMarks_len (t : Bs) : (cutMarks t).middle.length ≤ t.length ∧ ((cutMarks t).query.getD []).length ≤ t.length ∧ ((cutMarks t).frag.getD []).length ≤ t.length ∧ (cutMarks t).scheme.length ≤ t.length := by
  have h1 := cutScheme_len t
  have h2 := cutOpt_len 35 (cutScheme t).2
  have h3 := cutOpt_len 63 (cutOpt 35 (cutScheme t).2).1
  unfold cutMarks
  simp only
  omega
end Go.Moor
namespace Go.Proofs
open Go.RowKit Go.Moor

/-- An address and no error, or an address of noughts and an address.Error. -/
def Tryz.ReadRes (l : Bs) (o : Except Int Adr) (e : Ending) (w' : World) : Prop :=
  match o with
  | .error n => ∃ (x y : ByteArray) (te : TypeId) (ve : Value), e = .returned (.tuple #[.agg zeroAdr, .iface 104 (.agg #[.string ⟨l.toArray⟩, .iface 96 (.agg #[.int .i64 n, .string x, .string y, .iface te ve])])])
  | .ok a => ∃ v, e = .returned (.tuple #[.agg (adrCells a v), .nilIface]) ∧ SegRow w' v a.way.segs
theorem Tryz.adrRes_below {o : Except Int Adr} {e : Ending} {w' w2 : World} (h : Tryz.AdrRes o e w') (hb : Below w'.heap.size w' w2) : Tryz.AdrRes o e w2 := by
  cases o with
  | error n => exact h
  | ok a =>
    obtain ⟨v, rfl, hs⟩ := h
    exact ⟨v, rfl, segRow_below hs hb⟩

set_option maxHeartbeats 8000000 in
set_option maxRecDepth 8000 in
theorem Tryz.Read_any (l : Bs) (ob : Option Adr) (bp : Option Go.Addr) (w : World) (hl : l.length ≤ 100000) (hbase : Tryz.BaseAt w bp ob) (henv : Tryz.Env2 w) :
    Calls Tryz.prog 58 #[.string ⟨l.toArray⟩, .pointer bp] w fun e w' => Tryz.ReadRes l (readAddr hostTell l ob) e w' ∧ Below w.heap.size w w' := by
  obtain ⟨W, hW⟩ : ∃ W, W = w.alloc (.cells zeroAdr 77) := ⟨_, rfl⟩
  have hBW : Below w.heap.size w W := by
    rw [hW]
    exact (Below.refl _ _).alloc (Nat.le_refl _) _
  have HBW : Hid (Below w.heap.size w W) := hBW
  have hsize : W.heap.size = w.heap.size + 1 := by rw [hW]; simp
  have HSZ : Hid (W.heap.size = w.heap.size + 1) := hsize
  have hz0 : W.heap[w.heap.size]? = some (.cells zeroAdr 77 (0, 0)) := by rw [hW]; exact alloc_here w _ _
  have HZ : Hid (∀ w1, Below W.heap.size W w1 → w1.heap[w.heap.size]? = some (.cells zeroAdr 77 (0, 0)) ∧ Below w.heap.size w w1) := fun w1 h1 => ⟨(h1.block _ (by omega)).trans hz0, HBW.out.trans (h1.mono (by omega))⟩
  have HS : Hid (∀ w1, Below W.heap.size W w1 → Calls Tryz.prog 94 #[.string ⟨l.toArray⟩] w1 fun e w' => e = .returned (.string ⟨(stripB l).toArray⟩) ∧ Below W.heap.size W w' ∧ Below w1.heap.size w1 w') := by
    intro w1 h1
    refine (Tryz.strip_any l w1 (by omega) ((henv.below hBW).below h1)).mono ?_
    rintro e w' ⟨rfl, hb⟩
    exact ⟨rfl, h1.trans (hb.mono h1.size), hb⟩
  have hsl := strip_len l
  have HC : Hid (∀ w1, Below W.heap.size W w1 → Calls Tryz.prog 93 #[.string ⟨(stripB l).toArray⟩] w1 fun e w' => e = .returned (.agg (cutsCells (cutMarks (stripB l)))) ∧ Below W.heap.size W w' ∧ Below w1.heap.size w1 w') := by
    intro w1 h1
    refine (Tryz.cutAtMarks_any ⟨(stripB l).toArray⟩ w1 (by rw [size_mk]; omega) ((henv.below hBW).below h1).env).mono ?_
    rintro e w' ⟨rfl, hb⟩
    exact ⟨rfl, h1.trans (hb.mono h1.size), hb⟩
  have HR : Hid (∀ w1, Below W.heap.size W w1 → Calls Tryz.prog 95 #[.agg (cutsCells (cutMarks (stripB l))), .pointer bp] w1 fun e w' => Tryz.AdrRes (readAddr hostTell l ob) e w' ∧ Below W.heap.size W w' ∧ Below w1.heap.size w1 w') := by
    intro w1 h1
    have hc := cutMarks_len (stripB l)
    have hbw := hBW.trans (h1.mono (Nat.le_of_lt (by omega)))
    refine (Tryz.read_any (cutMarks (stripB l)) ob bp w1 (by omega) (by omega) (by omega) (hbase.below hbw) (henv.below hbw)).mono ?_
    rintro e w' ⟨hr, hb⟩
    exact ⟨hr, h1.trans (hb.mono h1.size), hb⟩
  generalize cutsCells (cutMarks (stripB l)) = CC at *
  obtain ⟨s, hsd⟩ : ∃ s : ByteArray, s = ⟨(stripB l).toArray⟩ := ⟨_, rfl⟩
  rw [← hsd] at HS HC
  obtain ⟨t, htd⟩ : ∃ t : ByteArray, t = ⟨l.toArray⟩ := ⟨_, rfl⟩
  have HT : Hid (t = ⟨l.toArray⟩) := htd
  rw [← htd] at HS ⊢
  generalize readAddr hostTell l ob = res at *
  clear hl hbase henv hBW hsl hsd htd hsize hz0
  go_enter Tryz.func58, Tryz.ntmps58
  go_upto_region 1 with fail
  unfold zeroAdr at hW
  rw [← hW]
  clear hW
  have m1 : W.heap.size ≠ w.heap.size := by have := HSZ.out; omega
  go_wp2_with fail
  refine Calls.mono (HS.out W (Below.refl _ _)) ?_
  rintro e w1 ⟨rfl, b1, _⟩
  go_wp2_with fail
  refine Calls.mono (HC.out w1 b1) ?_
  rintro e w2 ⟨rfl, b2, _⟩
  clear b1
  go_wp2_with fail
  refine Calls.mono (HR.out w2 b2) ?_
  rintro e w3 ⟨hr, b3, _⟩
  clear b2
  obtain ⟨cs, v, rfl, hsz, hone⟩ := Tryz.adrRes_ret hr
  have HN3 : Hid (w3.heap[w.heap.size]? = some (.cells zeroAdr 77 (0, 0)) ∧ Below w.heap.size w w3) := HZ.out w3 b3
  have HK : Hid ((w3.alloc (.cells zeroAdr 77)).heap[w3.heap.size]? = some (.cells zeroAdr 77 (0, 0))) := alloc_here w3 _ _
  have HZS : Hid ((Tryz.prog.info? 77).map (·.size) = some cs.size) := by show _ = _; rw [hsz]; exact Tryz.sizeAdr
  have HZO : Hid (zeroAdr.size = cs.size) := by show _ = _; rw [hsz]; rfl
  have HON : Hid (cs.all (·.oneCell') = true) := hone
  have m3 : w3.heap.size ≠ w.heap.size := by have := b3.size; have := HSZ.out; omega
  have HM3 : Hid (w.heap.size ≠ w3.heap.size ∧ w.heap.size < w3.heap.size) := ⟨m3.symm, by have := b3.size; have := HSZ.out; omega⟩
  clear hsz hone
  cases res with
  | error n =>
    obtain ⟨cs2, x, y, te, ve, he, _, _⟩ := hr
    injection he with he
    injection he with he
    simp at he
    obtain ⟨rfl, rfl⟩ := he
    have HW4 : Hid (((w3.alloc (.cells zeroAdr 77)).setRow w3.heap.size cs).heap[w.heap.size]? = some (.cells zeroAdr 77 (0, 0)) ∧ Below w.heap.size w ((w3.alloc (.cells zeroAdr 77)).setRow w3.heap.size cs)) := by
      refine ⟨?_, below_setRow (HN3.out.2.alloc HN3.out.2.size _) (Nat.le_of_lt HM3.out.2) _⟩
      rw [setRow_other _ _ _ _ HM3.out.1]
      exact ((Below.refl w3.heap.size w3).alloc (Nat.le_refl _) _).block _ HM3.out.2 |>.trans HN3.out.1
    clear b3
    go_wp2_with (first | refine wpList_store_row rfl 77 _ _ rfl w3.heap.size cs rfl rfl 77 zeroAdr HK.out HZS.out HZO.out HON.out ?_ | refine wpList_store_row rfl 77 _ _ rfl w.heap.size zeroAdr rfl rfl 77 zeroAdr HW4.out.1 Tryz.sizeAdr rfl zeroAdr_one ?_)
    (try simp only [Exit.inBlock, Exit.then])
    have hld := run_loadVar_row (P := Tryz.prog) (((w3.alloc (.cells zeroAdr 77)).setRow w3.heap.size cs).setRow w.heap.size zeroAdr) w.heap.size 77 77 zeroAdr (0, 0) _ (setRow_heap _ w.heap.size zeroAdr zeroAdr 77 (0, 0) HW4.out.1) Tryz.underlying77 rfl Tryz.sizeAdr
    refine bodyPost_ret (v := .tuple #[.agg zeroAdr, .iface 104 (.agg #[.string t, .iface 96 (.agg #[.int .i64 n, .string x, .string y, .iface te ve])])]) ?_ rfl ⟨⟨x, y, te, ve, by rw [HT.out]⟩, below_setRow HW4.out.2 (Nat.le_refl _) _⟩
    rw [results_cell_tmp rfl]
    simp only [zeroAdr] at hld
    simp [asAddr, Result.andThen, hld, zeroAdr]
  | ok a =>
    have HAR : Hid (Tryz.AdrRes (.ok a) (.returned (.tuple #[.agg cs, v])) w3) := hr
    obtain ⟨v2, he, hs⟩ := hr
    injection he with he
    injection he with he
    simp at he
    obtain ⟨hcs, rfl⟩ := he
    clear hcs hs
    have HW4 : Hid (((w3.alloc (.cells zeroAdr 77)).setRow w3.heap.size cs).heap[w.heap.size]? = some (.cells zeroAdr 77 (0, 0)) ∧ Below w.heap.size w ((w3.alloc (.cells zeroAdr 77)).setRow w3.heap.size cs)) := by
      refine ⟨?_, below_setRow (HN3.out.2.alloc HN3.out.2.size _) (Nat.le_of_lt HM3.out.2) _⟩
      rw [setRow_other _ _ _ _ HM3.out.1]
      exact ((Below.refl w3.heap.size w3).alloc (Nat.le_refl _) _).block _ HM3.out.2 |>.trans HN3.out.1
    have HLD : Hid (((w3.alloc (.cells zeroAdr 77)).setRow w3.heap.size cs).heap[w3.heap.size]? = some (.cells cs 77 (0, 0))) := setRow_heap _ w3.heap.size zeroAdr cs 77 (0, 0) HK.out
    have HA5 : Hid (Tryz.AdrRes (.ok a) (.returned (.tuple #[.agg cs, .nilIface])) (((w3.alloc (.cells zeroAdr 77)).setRow w3.heap.size cs).setRow w.heap.size cs)) := Tryz.adrRes_setRow (Tryz.adrRes_setRow (Tryz.adrRes_below HAR.out ((Below.refl w3.heap.size w3).alloc (Nat.le_refl _) _)) _ _ cs HK.out) _ _ cs HW4.out.1
    clear b3 HAR
    go_wp2_with (first | refine wpList_load_row rfl 77 _ rfl w3.heap.size rfl 77 cs (0, 0) _ HLD.out Tryz.underlying77 rfl HZS.out ?_ | refine wpList_store_row rfl 77 _ _ rfl w3.heap.size cs rfl rfl 77 zeroAdr HK.out HZS.out HZO.out HON.out ?_ | refine wpList_store_row rfl 77 _ _ rfl w.heap.size cs rfl rfl 77 zeroAdr HW4.out.1 HZS.out HZO.out HON.out ?_)
    (try simp only [Exit.inBlock, Exit.then])
    have hld := run_loadVar_row (P := Tryz.prog) (((w3.alloc (.cells zeroAdr 77)).setRow w3.heap.size cs).setRow w.heap.size cs) w.heap.size 77 77 cs (0, 0) _ (setRow_heap _ w.heap.size zeroAdr cs 77 (0, 0) HW4.out.1) Tryz.underlying77 rfl HZS.out
    refine bodyPost_ret (v := .tuple #[.agg cs, .nilIface]) ?_ rfl ⟨HA5.out, below_setRow HW4.out.2 (Nat.le_refl _) _⟩
    rw [results_cell_tmp rfl]
    simp only [zeroAdr] at hld
    simp [asAddr, Result.andThen, hld]
end Go.Proofs
/-
  Plain mathematics: how long what is read of a text can be.
-/
namespace Go.Moor
open Go Go.Proofs

/-- No text of the address is longer than N, and it has at most M segments. -/
structure Small (N M : Nat) (a : Adr) : Prop where
  scheme : a.scheme.length ≤ N
  user : a.auth.user.length ≤ N
  pass : a.auth.pass.length ≤ N
  host : a.auth.host.length ≤ N
  port : a.auth.port = -1 ∨ (0 ≤ a.auth.port ∧ a.auth.port ≤ 65535)
  text : a.way.text.length ≤ N
  count : a.way.segs.length ≤ M
  segs : ∀ x ∈ a.way.segs, x.length ≤ N
  query : (a.query.getD []).length ≤ N
  frag : (a.frag.getD []).length ≤ N

theorem lower_len (l : Bs) : (Lib.toLowerA l).length = l.length := by simp [Lib.toLowerA]
theorem sixTell_len (ps : List Nat) (h : ps.length = 8) : (sixTell ps).length ≤ 82 := by
  unfold sixTell
  split
  · have := tellRow_len ps
    omega
  · have h1 := tellRow_len (ps.take (noughts ps 0 0 0 0).1)
    have h2 := tellRow_len (ps.drop ((noughts ps 0 0 0 0).1 + (noughts ps 0 0 0 0).2))
    simp only [List.length_append, List.length_take, List.length_drop, List.length_cons, List.length_nil] at *
    omega
theorem hostTell_len (l : Bs) (sp : Bool) (h : Bs) (e : hostTell l sp = some h) : h.length ≤ 3 * l.length + 90 := by
  unfold hostTell at e
  split at e
  · unfold bracketed at e
    split at e
    · split at e
      · rename_i ps hp
        have hk := (sixOf_ok _ ps hp).1
        have := sixTell_len (ps.map Int.toNat) (by simpa using hk)
        simp only [Option.some.injEq] at e
        rw [← e]
        simp only [List.length_append, List.length_cons, List.length_nil]
        omega
      · simp at e
    · simp at e
  · split at e
    · unfold hostSpecial at e
      have hu := unesc_len l.length l (Nat.le_refl _)
      split at e
      · simp at e
      · split at e
        · simp at e
        · split at e
          · cases h4 : ip4 (labels (Lib.toLowerA (unesc l))) with
            | none => rw [h4] at e; simp at e
            | some a =>
              rw [h4] at e
              simp only [Option.map_some, Option.some.injEq] at e
              have := tell4_len a.toNat
              rw [← e]
              omega
          · simp only [Option.some.injEq] at e
            rw [← e, lower_len]
            omega
    · unfold hostPlain at e
      split at e
      · simp at e
      · simp only [Option.some.injEq] at e
        have := esc_le 0 l
        rw [← e]
        omega

theorem segLoop_small (s : Bs) (K : Nat) : ∀ (l segs : List Bs), (∀ p ∈ l, 3 * p.length + 2 ≤ K) → (∀ x ∈ segs, x.length ≤ K) → (segLoop s segs l).length ≤ segs.length + l.length ∧ ∀ x ∈ segLoop s segs l, x.length ≤ K
  | [], segs, _, h => ⟨by simp [segLoop], by simpa [segLoop] using h⟩
  | p :: l, segs, hl, h => by
    have hl2 : ∀ p ∈ l, 3 * p.length + 2 ≤ K := fun x hx => hl x (List.mem_cons_of_mem _ hx)
    have hlast : ∀ x ∈ (if l.isEmpty = true then [([] : Bs)] else []), x.length ≤ K := by
      intro x hx
      split at hx
      · simp at hx
        rw [hx]
        simp
      · simp at hx
    have hln : (if l.isEmpty = true then [([] : Bs)] else []).length ≤ 1 := by split <;> simp
    rcases dots_le p with hd | hd | hd
    · rw [segLoop_cons s segs p l hd]
      have ih := segLoop_small s K l (segs ++ [tellSeg s p segs.isEmpty]) hl2 (fun x hx => by
        rcases List.mem_append.1 hx with hx | hx
        · exact h x hx
        · simp at hx
          have := tellSeg_len s p segs.isEmpty
          have := hl p (by simp)
          rw [hx]
          omega)
      refine ⟨?_, ih.2⟩
      have := ih.1
      simp at this ⊢
      omega
    · rw [segLoop_one s segs p l hd]
      have ih := segLoop_small s K l (segs ++ (if l.isEmpty then [[]] else [])) hl2 (fun x hx => by
        rcases List.mem_append.1 hx with hx | hx
        · exact h x hx
        · exact hlast x hx)
      refine ⟨?_, ih.2⟩
      have := ih.1
      rw [List.length_append] at this
      simp only [List.length_cons]
      omega
    · rw [segLoop_two s segs p l hd]
      have hw := withoutLast_mem s segs
      have ih := segLoop_small s K l (withoutLast s segs ++ (if l.isEmpty then [[]] else [])) hl2 (fun x hx => by
        rcases List.mem_append.1 hx with hx | hx
        · exact h x (hw.2 x hx)
        · exact hlast x hx)
      refine ⟨?_, ih.2⟩
      have := ih.1
      rw [List.length_append] at this
      simp only [List.length_cons]
      omega
theorem trimSlash_le (m : Bs) : (trimSlash m).length ≤ m.length := by
  unfold trimSlash
  split <;> simp
theorem readSegs_small (s : Bs) (begun : List Bs) (t : Bs) (K : Nat) (ht : 3 * t.length + 2 ≤ K) (hb : ∀ x ∈ begun, x.length ≤ K) : (readSegs s begun t).length ≤ begun.length + (t.length + 1) ∧ ∀ x ∈ readSegs s begun t, x.length ≤ K := by
  unfold readSegs
  split
  · exact ⟨by omega, hb⟩
  · have h1 := trimSlash_le t
    have h2 := splitOn_count 47 (trimSlash t)
    have h3 := segLoop_small s K (splitOn 47 (trimSlash t)) begun (fun p hp => by have := splitOn_mem 47 _ p hp; omega) hb
    exact ⟨by omega, h3.2⟩
theorem cutSlash_len (t : Bs) : (cutSlash t).1.length ≤ t.length ∧ (cutSlash t).2.length ≤ t.length := ⟨(List.takeWhile_sublist _).length_le, (List.dropWhile_sublist _).length_le⟩
theorem cutLast_len (c : UInt8) (t a b : Bs) (h : cutLast c t = some (a, b)) : a.length ≤ t.length ∧ b.length ≤ t.length := by
  unfold cutLast at h
  cases hc : cutB c t.reverse with
  | none => rw [hc] at h; simp at h
  | some p =>
    rw [hc] at h
    simp only [Option.map_some, Option.some.injEq, Prod.mk.injEq] at h
    have hp := congrArg List.length (Go.Proofs.cutB_parts c _ p.1 p.2 hc)
    rw [← h.1, ← h.2]
    simp at hp ⊢
    omega
theorem cutLogin_len (t : Bs) : (cutLogin t).1.length ≤ t.length ∧ (cutLogin t).2.length ≤ t.length := by
  unfold cutLogin
  cases h : cutLast 64 t with
  | none => simp
  | some p => exact cutLast_len 64 t p.1 p.2 h
theorem cutPort_len (t : Bs) : (cutPort t).1.length ≤ t.length := by
  unfold cutPort
  cases h : cutB 58 (t.drop (brackets t)) with
  | none => simp
  | some p =>
    have hp := congrArg List.length (Go.Proofs.cutB_parts 58 _ p.1 p.2 h)
    simp at hp ⊢
    omega
theorem readPort_range (t s : Bs) (p : Int) (h : readPort t s = some p) : p = -1 ∨ (0 ≤ p ∧ p ≤ 65535) := by
  unfold readPort at h
  split at h
  · simp at h; exact Or.inl h.symm
  · split at h
    · rename_i hd
      simp only [Bool.and_eq_true, decide_eq_true_eq] at hd
      split at h
      · simp at h; exact Or.inl h.symm
      · simp at h
        exact Or.inr ⟨by omega, by omega⟩
    · simp at h
structure SmallAuth (N : Nat) (a : Auth) : Prop where
  user : a.user.length ≤ N
  pass : a.pass.length ≤ N
  host : a.host.length ≤ N
  port : a.port = -1 ∨ (0 ≤ a.port ∧ a.port ≤ 65535)
structure SmallWay (N M : Nat) (w : Moor.Way) : Prop where
  text : w.text.length ≤ N
  count : w.segs.length ≤ M
  segs : ∀ x ∈ w.segs, x.length ≤ N
theorem readAuth_small (t s : Bs) (a : Auth) (N : Nat) (hN : 3 * t.length + 90 ≤ N) (h : readAuth hostTell t s = .ok a) : SmallAuth N a := by
  unfold readAuth at h
  simp only at h
  split at h
  · simp at h
  · rename_i ho hh
    split at h
    · simp at h
    · rename_i p hp
      simp only [Except.ok.injEq] at h
      have h1 := cutLogin_len t
      have h2 := cutOpt_len 58 (cutLogin t).1
      have h3 := cutPort_len (cutLogin t).2
      have e1 := esc_le 5 (cutOpt 58 (cutLogin t).1).1
      have e2 := esc_le 5 ((cutOpt 58 (cutLogin t).1).2.getD [])
      have hl : ho.length ≤ 3 * (cutPort (cutLogin t).2).1.length + 90 := by
        unfold tellHost at hh
        split at hh
        · simp at hh
        · exact hostTell_len _ _ _ hh
      rw [← h]
      exact ⟨by simp only; omega, by simp only; omega, by simp only; omega, readPort_range _ _ _ hp⟩
theorem readWay_small (s : Bs) (begun : List Bs) (t : Bs) (N M : Nat) (ht : 3 * t.length + 90 ≤ N) (hb : ∀ x ∈ begun, x.length ≤ N) (hc : begun.length ≤ M) : SmallWay N (M + t.length + 1) (readWay s begun t) := by
  have h := readSegs_small s begun t N (by omega) hb
  exact ⟨by simp [readWay], by have := h.1; show (readSegs s begun t).length ≤ _; omega, h.2⟩
theorem SmallWay.mono {N M M' : Nat} {w : Moor.Way} (h : SmallWay N M w) (hm : M ≤ M') : SmallWay N M' w := ⟨h.text, Nat.le_trans h.count hm, h.segs⟩
theorem fromAuth_small (s t : Bs) (a : Auth) (y : Moor.Way) (N : Nat) (hN : 3 * t.length + 90 ≤ N) (h : fromAuth hostTell s t = .ok (a, y)) : SmallAuth N a ∧ SmallWay N (t.length + 1) y := by
  unfold fromAuth at h
  simp only at h
  have hc := cutSlash_len t
  split at h
  · simp at h
  · rename_i a2 ha
    simp only [Except.ok.injEq, Prod.mk.injEq] at h
    obtain ⟨rfl, rfl⟩ := h
    refine ⟨readAuth_small _ s a2 N (by omega) ha, ?_⟩
    exact (readWay_small s [] (cutSlash t).2 N 0 (by omega) (by simp) (by simp)).mono (by omega)
theorem fileAuth_small (N : Nat) (h : Bs) (hh : h.length ≤ N) : SmallAuth N (fileAuth h) := ⟨by simp [fileAuth], by simp [fileAuth], hh, Or.inl rfl⟩
theorem noAuth_small (N : Nat) : SmallAuth N noAuth := ⟨by simp [noAuth], by simp [noAuth], by simp [noAuth], Or.inl rfl⟩
theorem Small.auth {N M : Nat} {a : Adr} (h : Small N M a) : SmallAuth N a.auth := ⟨h.user, h.pass, h.host, h.port⟩
theorem Small.way {N M : Nat} {a : Adr} (h : Small N M a) : SmallWay N M a.way := ⟨h.text, h.count, h.segs⟩
theorem goOn_small (s m : Bs) (q : Option Bs) (b : Adr) (N M : Nat) (hN : 3 * m.length + 90 ≤ N) (hq : (q.getD []).length ≤ N) (hb : Small N M b) : SmallWay N (M + m.length + 1) (goOn s m q b).1 ∧ ((goOn s m q b).2.getD []).length ≤ N := by
  unfold goOn
  split
  · have hw := withoutLast_mem s b.way.segs
    exact ⟨readWay_small s _ m N M hN (fun x hx => hb.segs x (hw.2 x hx)) (Nat.le_trans hw.1 hb.count), hq⟩
  · refine ⟨hb.way.mono (by omega), ?_⟩
    simp only
    split
    · exact hq
    · exact hb.query
def Small3 (N M : Nat) (p : Auth × Moor.Way × Option Bs) : Prop := SmallAuth N p.1 ∧ SmallWay N M p.2.1 ∧ (p.2.2.getD []).length ≤ N
theorem driveOf_mem (segs : List Bs) : (driveOf segs).length ≤ segs.length ∧ ∀ x ∈ driveOf segs, x ∈ segs := by
  unfold driveOf
  split
  · exact ⟨by simp; omega, fun x hx => List.mem_of_mem_take hx⟩
  · simp
theorem fileHost_len (t h : Bs) (e : fileHost hostTell t = some h) : h.length ≤ 3 * t.length + 90 := by
  unfold fileHost at e
  split at e
  · simp at e; rw [e]; simp
  · split at e
    · simp at e
    · rename_i g hg
      have := hostTell_len _ _ _ hg
      split at e
      · simp at e; rw [e]; simp
      · simp at e; rw [← e]; exact this
theorem readFile_small (m : Bs) (q : Option Bs) (ob : Option Adr) (N M : Nat) (p : Auth × Moor.Way × Option Bs) (hN : 3 * m.length + 90 ≤ N) (hq : (q.getD []).length ≤ N) (hb : ∀ b, ob = some b → Small N M b) (h : readFile hostTell m q ob = .ok p) : Small3 N (M + m.length + 1) p := by
  unfold readFile at h
  split at h
  · simp only at h
    have hc := cutSlash_len (m.drop 2)
    have hd : (m.drop 2).length ≤ m.length := by simp
    split at h
    · simp only [Except.ok.injEq] at h
      rw [← h]
      exact ⟨fileAuth_small N [] (by simp), (readWay_small sFile [] (m.drop 2) N 0 (by omega) (by simp) (by simp)).mono (by omega), hq⟩
    · split at h
      · simp at h
      · rename_i ho hh
        simp only [Except.ok.injEq] at h
        rw [← h]
        have := fileHost_len _ _ hh
        exact ⟨fileAuth_small N ho (by omega), (readWay_small sFile [] (cutSlash (m.drop 2)).2 N 0 (by omega) (by simp) (by simp)).mono (by omega), hq⟩
  · split at h
    · simp only [Except.ok.injEq] at h
      rw [← h]
      exact ⟨fileAuth_small N [] (by simp), (readWay_small sFile [] m N 0 (by omega) (by simp) (by simp)).mono (by omega), hq⟩
    · rename_i b
      have hs := hb b rfl
      split at h
      · simp only [Except.ok.injEq] at h
        rw [← h]
        exact ⟨fileAuth_small N _ hs.host, (readWay_small sFile [] m N 0 (by omega) (by simp) (by simp)).mono (by omega), hq⟩
      · split at h
        · simp only [Except.ok.injEq] at h
          rw [← h]
          have hd := driveOf_mem b.way.segs
          exact ⟨fileAuth_small N _ hs.host, readWay_small sFile _ m N M (by omega) (fun x hx => hs.segs x (hd.2 x hx)) (Nat.le_trans hd.1 hs.count), hq⟩
        · simp only [Except.ok.injEq] at h
          rw [← h]
          have hg := goOn_small sFile m q b N M (by omega) hq hs
          exact ⟨fileAuth_small N _ hs.host, hg.1, hg.2⟩
theorem trimSlashes_le (m : Bs) : (trimSlashes m).length ≤ m.length := (List.dropWhile_sublist _).length_le
theorem readRelative_small (s m : Bs) (q : Option Bs) (b : Adr) (N M : Nat) (p : Auth × Moor.Way × Option Bs) (hN : 3 * m.length + 90 ≤ N) (hq : (q.getD []).length ≤ N) (hs : Small N M b) (h : readRelative hostTell s m q b = .ok p) : Small3 N (M + m.length + 1) p := by
  unfold readRelative at h
  split at h
  · have hd : (m.drop 2).length ≤ m.length := by simp
    have ht := trimSlashes_le (m.drop 2)
    have hx : (if special s = true then trimSlashes (m.drop 2) else m.drop 2).length ≤ m.length := by split <;> omega
    cases hf : fromAuth hostTell s (if special s = true then trimSlashes (m.drop 2) else m.drop 2) with
    | error e => rw [hf] at h; simp at h
    | ok ay =>
      rw [hf] at h
      simp only [Except.ok.injEq] at h
      have hfs := fromAuth_small s _ ay.1 ay.2 N (by omega) hf
      rw [← h]
      exact ⟨hfs.1, hfs.2.mono (by omega), hq⟩
  · split at h
    · simp only [Except.ok.injEq] at h
      rw [← h]
      exact ⟨hs.auth, (readWay_small s [] m N 0 (by omega) (by simp) (by simp)).mono (by omega), hq⟩
    · simp only [Except.ok.injEq] at h
      rw [← h]
      have hg := goOn_small s m q b N M (by omega) hq hs
      exact ⟨hs.auth, hg.1, hg.2⟩
theorem escOpaque_len (t : Bs) : (escOpaque t).length ≤ 9 * t.length := by
  have h1 := esc_le 0 t
  have h2 : ∀ l : Bs, (l.flatMap fun c => if c = 32 then [37, 50, 48] else [c]).length ≤ 3 * l.length := by
    intro l
    induction l with
    | nil => simp
    | cons c l ih =>
      rw [List.flatMap_cons, List.length_append]
      split <;> simp only [List.length_cons, List.length_nil] <;> omega
  have := h2 (esc 0 t)
  unfold escOpaque
  omega
theorem readOther_small (s m : Bs) (a : Auth) (y : Moor.Way) (N : Nat) (hN : 9 * m.length + 90 ≤ N) (h : readOther hostTell s m = .ok (a, y)) : SmallAuth N a ∧ SmallWay N (m.length + 1) y := by
  unfold readOther at h
  split at h
  · have hd : (m.drop 2).length ≤ m.length := by simp
    have := fromAuth_small s (m.drop 2) a y N (by omega) h
    exact ⟨this.1, this.2.mono (by omega)⟩
  · split at h
    · simp only [Except.ok.injEq, Prod.mk.injEq] at h
      obtain ⟨rfl, rfl⟩ := h
      exact ⟨noAuth_small N, (readWay_small s [] m N 0 (by omega) (by simp) (by simp)).mono (by omega)⟩
    · simp only [Except.ok.injEq, Prod.mk.injEq] at h
      obtain ⟨rfl, rfl⟩ := h
      have := escOpaque_len m
      exact ⟨noAuth_small N, by simp only; omega, by simp, by simp⟩
theorem readMiddle_small (s m : Bs) (q : Option Bs) (ob : Option Adr) (N M : Nat) (p : Auth × Moor.Way × Option Bs) (hN : 9 * m.length + 90 ≤ N) (hq : (q.getD []).length ≤ N) (hb : ∀ b, ob = some b → Small N M b) (h : readMiddle hostTell s m q ob = .ok p) : Small3 N (M + m.length + 1) p := by
  unfold readMiddle at h
  split at h
  · exact readFile_small m q ob N M p (by omega) hq hb h
  · split at h
    · rename_i b
      exact readRelative_small s m q b N M p (by omega) hq (hb b rfl) h
    · have ht := trimSlashes_le m
      cases hf : (if special s = true then fromAuth hostTell s (trimSlashes m) else readOther hostTell s m) with
      | error e => rw [hf] at h; simp at h
      | ok ay =>
        rw [hf] at h
        simp only [Except.ok.injEq] at h
        rw [← h]
        split at hf
        · have hfs := fromAuth_small s _ ay.1 ay.2 N (by omega) hf
          exact ⟨hfs.1, hfs.2.mono (by omega), hq⟩
        · have hfs := readOther_small s m ay.1 ay.2 N (by omega) hf
          exact ⟨hfs.1, hfs.2.mono (by omega), hq⟩
theorem evenSlashes_len (s m : Bs) : (evenSlashes s m).length = m.length := by
  unfold evenSlashes
  split <;> simp
theorem optEsc_len (s : Int) (o : Option Bs) : ((o.map (esc s)).getD []).length ≤ 3 * (o.getD []).length := by
  cases o with
  | none => simp
  | some t => exact esc_le s t
theorem readMarked_small (s m : Bs) (q f : Option Bs) (ob : Option Adr) (N M : Nat) (a : Adr) (hs : s.length ≤ N) (hN : 9 * m.length + 90 ≤ N) (hq : 3 * (q.getD []).length ≤ N) (hf : 3 * (f.getD []).length ≤ N) (hb : ∀ b, ob = some b → Small N M b) (h : readMarked hostTell s m q f ob = .ok a) : Small N (M + m.length + 1) a := by
  unfold readMarked at h
  have hq2 := optEsc_len (querySet s) q
  have hf2 := optEsc_len 1 f
  cases hm : readMiddle hostTell s (evenSlashes s m) (q.map (esc (querySet s))) ob with
  | error e => rw [hm] at h; simp at h
  | ok p =>
    rw [hm] at h
    simp only [Except.ok.injEq] at h
    have hp := readMiddle_small s (evenSlashes s m) _ ob N M p (by rw [evenSlashes_len]; omega) (by omega) hb hm
    rw [evenSlashes_len] at hp
    rw [← h]
    exact ⟨hs, hp.1.user, hp.1.pass, hp.1.host, hp.1.port, hp.2.1.text, hp.2.1.count, hp.2.1.segs, hp.2.2, by simp only; omega⟩
/-- What is read of a text is small, beside a base that is small. -/
theorem readAddr_small (t : Bs) (ob : Option Adr) (N M : Nat) (a : Adr) (hN : 9 * t.length + 90 ≤ N) (hb : ∀ b, ob = some b → Small N M b) (h : readAddr hostTell t ob = .ok a) : Small N (M + t.length + 1) a := by
  unfold readAddr at h
  have hs := strip_len t
  obtain ⟨c1, c2, c3, c4⟩ := cutMarks_len (stripB t)
  generalize cutMarks (stripB t) = c at *
  have hup : ∀ {x : Adr} {M' : Nat}, Small N M' x → M' ≤ M + t.length + 1 → Small N (M + t.length + 1) x := fun h hm => ⟨h.scheme, h.user, h.pass, h.host, h.port, h.text, Nat.le_trans h.count hm, h.segs, h.query, h.frag⟩
  unfold readCuts at h
  split at h
  · refine hup (readMarked_small c.scheme c.middle c.query c.frag _ N M a (by omega) (by omega) (by omega) (by omega) ?_ h) (by omega)
    intro b hbb
    cases ob with
    | none => simp at hbb
    | some b2 =>
      simp only [Option.bind_some] at hbb
      split at hbb
      · simp only [Option.some.injEq] at hbb
        exact hb b (by rw [hbb])
      · simp at hbb
  · split at h
    · simp at h
    · rename_i b
      have hs := hb b rfl
      split at h
      · split at h
        · simp only [Except.ok.injEq] at h
          rw [← h]
          have hf := optEsc_len 1 c.frag
          refine hup (M' := M) ?_ (by omega)
          exact ⟨hs.scheme, hs.user, hs.pass, hs.host, hs.port, hs.text, hs.count, hs.segs, hs.query, by simp only; omega⟩
        · simp at h
      · exact hup (readMarked_small b.scheme c.middle c.query c.frag _ N M a hs.scheme (by omega) (by omega) (by omega) hb h) (by omega)
end Go.Moor
