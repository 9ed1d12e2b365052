/-
  What Address.Tell answers.
-/
import Derived.Test.YtkcnageeamappaaGreatDoorJATell2
namespace Go.Proofs
open Go.RowKit Go.Moor

theorem tellSegs_all (segs : List Bs) (hx : ∀ x ∈ segs, x.length ≤ 1000000) : (tellSegs segs).length ≤ 1000001 * segs.length := by
  have := tellSegs_le segs hx segs.length
  rwa [List.take_length] at this

set_option maxHeartbeats 8000000 in
theorem Tryz.Tell_any' (a : Adr) (v : Value) (w : World) (hv : SegRow w v a.way.segs) (hs : Small 1000000 1000000 a) (henv : Tryz.Env2 w) :
    Calls Tryz.prog 57 #[.agg (adrCells a v)] w fun e w' => e = .returned (.string ⟨(tellAddr a).toArray⟩) ∧ Below w.heap.size w w' := by
  obtain ⟨W, hW⟩ : ∃ W, W = w.alloc (.cells (adrCells a v) 77) := ⟨_, rfl⟩
  have hBW : Below w.heap.size w W := by
    rw [hW]
    exact (Below.refl _ _).alloc (Nat.le_refl _) _
  have hz0 : W.heap[w.heap.size]? = some (.cells (adrCells a v) 77 (0, 0)) := by rw [hW]; exact alloc_here w _ _
  have hsize : W.heap.size = w.heap.size + 1 := by rw [hW]; simp
  have HBW : Hid (∀ w1, Below W.heap.size W w1 → Below w.heap.size w w1) := fun w1 h1 => hBW.trans (h1.mono (by omega))
  have HAU : Hid (∀ w1, Below W.heap.size W w1 → Calls Tryz.prog 90 #[.agg (authCells a.auth)] w1 fun e w' => e = .returned (.string ⟨(tellAuth a.auth).toArray⟩) ∧ Below W.heap.size W w') := by
    intro w1 h1
    refine (Tryz.authTell_any a.auth w1 (by have := hs.user; omega) (by have := hs.pass; omega) (by have := hs.host; omega) hs.port ((henv.below hBW).below h1)).mono ?_
    rintro e w' ⟨rfl, hb⟩
    exact ⟨rfl, h1.trans (hb.mono h1.size)⟩
  have HG : Hid (∀ w1, Below W.heap.size W w1 → Calls Tryz.prog 91 #[.agg (adrCells a v)] w1 fun e w' => e = .returned (.string ⟨(guardB a).toArray⟩) ∧ Below W.heap.size W w') := by
    intro w1 h1
    refine (Tryz.guard_any a v w1 (segRow_below (segRow_below hv hBW) h1)).mono ?_
    rintro e w' ⟨rfl, hb⟩
    exact ⟨rfl, h1.trans (hb.mono h1.size)⟩
  have HP : Hid (∀ w1, Below W.heap.size W w1 → Calls Tryz.prog 59 #[.agg #[.bool a.way.opaq, .string ⟨a.way.text.toArray⟩, v]] w1 fun e w' => e = .returned (.string ⟨(tellWay a.way).toArray⟩) ∧ Below W.heap.size W w') := by
    intro w1 h1
    refine (Tryz.pathTell_any a.way v w1 (segRow_below (segRow_below hv hBW) h1) (by have := hs.count; omega) hs.segs).mono ?_
    rintro e w' ⟨rfl, hb⟩
    exact ⟨rfl, h1.trans (hb.mono h1.size)⟩
  have HO : Hid (∀ (o : Option Bs) (m : UInt8) w1, (o.getD []).length ≤ 1000000 → Below W.heap.size W w1 → Calls Tryz.prog 92 #[.agg #[.bool o.isSome, .string ⟨(o.getD []).toArray⟩], .string ⟨#[m]⟩] w1 fun e w' => e = .returned (.string ⟨(tellOpt m o).toArray⟩) ∧ Below W.heap.size W w') := by
    intro o m w1 ho h1
    refine (Tryz.optTell_any o m w1 (by omega)).mono ?_
    rintro e w' ⟨rfl, hb⟩
    exact ⟨rfl, h1.trans (hb.mono h1.size)⟩
  have HQ : Hid (∀ w1, Below W.heap.size W w1 → _) := fun w1 h1 => HO.out a.query 63 w1 hs.query h1
  have HF : Hid (∀ w1, Below W.heap.size W w1 → _) := fun w1 h1 => HO.out a.frag 35 w1 hs.frag h1
  -- sizes
  have l1 : (tellAuth a.auth).length ≤ 10000000 := by
    have h1 := hs.user
    have h2 := hs.pass
    have h3 := hs.host
    have hd : (decB a.auth.port).length ≤ 10 ∨ a.auth.port = -1 := by
      rcases hs.port with h | h
      · exact Or.inr h
      · exact Or.inl (dec_len5 _ (by omega))
    unfold tellAuth
    split
    · have hl : (tellLogin a.auth).length ≤ 2000010 := by
        unfold tellLogin
        split
        · simp; omega
        · split
          · simp; omega
          · simp
      have hp : (tellPlace a.auth).length ≤ 1000020 := by
        unfold tellPlace
        split
        · omega
        · rcases hd with h | h
          · simp; omega
          · contradiction
      simp
      omega
    · simp
  have l2 : (guardB a).length ≤ 2 := by
    unfold guardB
    split <;> simp
  have l3 : (tellWay a.way).length ≤ 1000001 * 1000000 := by
    unfold tellWay
    split
    · have := hs.text
      omega
    · have h1 := tellSegs_all a.way.segs hs.segs
      have h2 := hs.count
      exact Nat.le_trans h1 (Nat.mul_le_mul_left _ h2)
  have l4 : ∀ (o : Option Bs) (m : UInt8), (o.getD []).length ≤ 1000000 → (tellOpt m o).length ≤ 1000001 := by
    intro o m ho
    cases o with
    | none => simp [tellOpt]
    | some t =>
      have : t.length ≤ 1000000 := ho
      simp only [tellOpt, List.length_cons]
      omega
  have l5 := l4 a.query 63 hs.query
  have l6 := l4 a.frag 35 hs.frag
  have l0 := hs.scheme
  have HA : Hid ((((((⟨a.scheme.toArray⟩ : ByteArray) ++ ⟨#[58]⟩) ++ ⟨(tellAuth a.auth).toArray⟩) ++ ⟨(guardB a).toArray⟩) ++ ⟨(tellWay a.way).toArray⟩) ++ ⟨(tellOpt 63 a.query).toArray⟩ ++ ⟨(tellOpt 35 a.frag).toArray⟩ = ⟨(tellAddr a).toArray⟩) := by
    show _ = _
    have h1 : (⟨a.scheme.toArray⟩ : ByteArray) ++ ⟨#[58]⟩ = ⟨(a.scheme ++ [58]).toArray⟩ := app_mk _ [58]
    rw [h1, app_mk, app_mk, app_mk, app_mk, app_mk]
    unfold tellAddr
    simp
  have HW : Hid (W = w.alloc (.cells (adrCells a v) 77)) := hW
  have HC : Hid (∀ w1, Below W.heap.size W w1 → w1.heap[w.heap.size]? = some (.cells (adrCells a v) 77 (0, 0))) := fun w1 h1 => (h1.block w.heap.size (by omega)).trans hz0
  rw [← size_mk] at l0 l1 l2 l3 l5 l6
  generalize (⟨(tellAuth a.auth).toArray⟩ : ByteArray) = t1 at *
  generalize (⟨(guardB a).toArray⟩ : ByteArray) = t2 at *
  generalize (⟨(tellWay a.way).toArray⟩ : ByteArray) = t3 at *
  generalize (⟨(tellOpt 63 a.query).toArray⟩ : ByteArray) = t4 at *
  generalize (⟨(tellOpt 35 a.frag).toArray⟩ : ByteArray) = t5 at *
  generalize (⟨(tellAddr a).toArray⟩ : ByteArray) = t6 at *
  unfold authCells at HAU
  unfold adrCells at HG HW HC ⊢
  generalize (⟨a.scheme.toArray⟩ : ByteArray) = x0 at *
  generalize (⟨a.auth.user.toArray⟩ : ByteArray) = x1 at *
  generalize (⟨a.auth.pass.toArray⟩ : ByteArray) = x2 at *
  generalize a.auth.has = x3 at *
  generalize (⟨a.auth.host.toArray⟩ : ByteArray) = x4 at *
  generalize a.auth.port = x5 at *
  generalize a.way.opaq = x6 at *
  generalize (⟨a.way.text.toArray⟩ : ByteArray) = x7 at *
  generalize a.query.isSome = x9 at *
  generalize (⟨(a.query.getD []).toArray⟩ : ByteArray) = x10 at *
  generalize a.frag.isSome = x11 at *
  generalize (⟨(a.frag.getD []).toArray⟩ : ByteArray) = x12 at *
  have HD : Hid (∀ w1, Below W.heap.size W w1 → w1.cell? ⟨w.heap.size, 0, none⟩ = some (.string x0) ∧ w1.cell? ⟨w.heap.size, 1, none⟩ = some (.string x1) ∧ w1.cell? ⟨w.heap.size, 2, none⟩ = some (.string x2) ∧ w1.cell? ⟨w.heap.size, 3, none⟩ = some (.bool x3) ∧ w1.cell? ⟨w.heap.size, 4, none⟩ = some (.string x4) ∧ w1.cell? ⟨w.heap.size, 5, none⟩ = some (.int .i64 x5) ∧ w1.cell? ⟨w.heap.size, 6, none⟩ = some (.bool x6) ∧ w1.cell? ⟨w.heap.size, 7, none⟩ = some (.string x7) ∧ w1.cell? ⟨w.heap.size, 8, none⟩ = some v ∧ w1.cell? ⟨w.heap.size, 9, none⟩ = some (.bool x9) ∧ w1.cell? ⟨w.heap.size, 10, none⟩ = some (.string x10) ∧ w1.cell? ⟨w.heap.size, 11, none⟩ = some (.bool x11) ∧ w1.cell? ⟨w.heap.size, 12, none⟩ = some (.string x12)) := by
    intro w1 h1
    have k := HC.out w1 h1
    exact ⟨cell_heap k 0, cell_heap k 1, cell_heap k 2, cell_heap k 3, cell_heap k 4, cell_heap k 5, cell_heap k 6, cell_heap k 7, cell_heap k 8, cell_heap k 9, cell_heap k 10, cell_heap k 11, cell_heap k 12⟩
  obtain ⟨d0, d1, d2, d3, d4, d5, d6, d7, d8, d9, d10, d11, d12⟩ := HD.out W (Below.refl _ _)
  have z58 : (⟨#[58]⟩ : ByteArray).size = 1 := rfl
  have g0 : ∀ W : World, (Op.stringOp .add x0 ⟨#[58]⟩).run Tryz.prog W = .ok (.string (x0 ++ ⟨#[58]⟩)) W := fun W => run_string_add_sum W _ _ (by omega)
  have g1 : ∀ W : World, (Op.stringOp .add (x0 ++ ⟨#[58]⟩) t1).run Tryz.prog W = .ok (.string (x0 ++ ⟨#[58]⟩ ++ t1)) W := fun W => run_string_add_sum W _ _ (by simp only [ByteArray.size_append]; omega)
  have g2 : ∀ W : World, (Op.stringOp .add (x0 ++ ⟨#[58]⟩ ++ t1) t2).run Tryz.prog W = .ok (.string (x0 ++ ⟨#[58]⟩ ++ t1 ++ t2)) W := fun W => run_string_add_sum W _ _ (by simp only [ByteArray.size_append]; omega)
  have g3 : ∀ W : World, (Op.stringOp .add (x0 ++ ⟨#[58]⟩ ++ t1 ++ t2) t3).run Tryz.prog W = .ok (.string (x0 ++ ⟨#[58]⟩ ++ t1 ++ t2 ++ t3)) W := fun W => run_string_add_sum W _ _ (by simp only [ByteArray.size_append]; omega)
  have g4 : ∀ W : World, (Op.stringOp .add (x0 ++ ⟨#[58]⟩ ++ t1 ++ t2 ++ t3) t4).run Tryz.prog W = .ok (.string (x0 ++ ⟨#[58]⟩ ++ t1 ++ t2 ++ t3 ++ t4)) W := fun W => run_string_add_sum W _ _ (by simp only [ByteArray.size_append]; omega)
  have g5 : ∀ W : World, (Op.stringOp .add (x0 ++ ⟨#[58]⟩ ++ t1 ++ t2 ++ t3 ++ t4) t5).run Tryz.prog W = .ok (.string (x0 ++ ⟨#[58]⟩ ++ t1 ++ t2 ++ t3 ++ t4 ++ t5)) W := fun W => run_string_add_sum W _ _ (by simp only [ByteArray.size_append]; omega)
  clear l0 l1 l2 l3 l4 l5 l6 z58 HO hW hBW hz0 hsize henv hs hv HC
  go_enter Tryz.func57, Tryz.ntmps57
  go_upto_region 1 with fail
  rw [← HW.out]
  clear HW
  go_region_held3 (fun w' => w'.cell? ⟨w.heap.size, 0, none⟩ = some (.string x0) ∧ w'.cell? ⟨w.heap.size, 1, none⟩ = some (.string x1) ∧ w'.cell? ⟨w.heap.size, 2, none⟩ = some (.string x2) ∧ w'.cell? ⟨w.heap.size, 3, none⟩ = some (.bool x3) ∧ w'.cell? ⟨w.heap.size, 4, none⟩ = some (.string x4) ∧ w'.cell? ⟨w.heap.size, 5, none⟩ = some (.int .i64 x5) ∧ w'.cell? ⟨w.heap.size, 6, none⟩ = some (.bool x6) ∧ w'.cell? ⟨w.heap.size, 7, none⟩ = some (.string x7) ∧ w'.cell? ⟨w.heap.size, 8, none⟩ = some v ∧ w'.cell? ⟨w.heap.size, 9, none⟩ = some (.bool x9) ∧ w'.cell? ⟨w.heap.size, 10, none⟩ = some (.string x10) ∧ w'.cell? ⟨w.heap.size, 11, none⟩ = some (.bool x11) ∧ w'.cell? ⟨w.heap.size, 12, none⟩ = some (.string x12)) (go_keep) (first | (go_at_call 90; refine Calls.mono (HAU.out _ (by exact same_heap rfl rfl rfl rfl)) ?_; rintro e w1 ⟨rfl, b1⟩; obtain ⟨y0, y1, y2, y3, y4, y5, y6, y7, y8, y9, y10, y11, y12⟩ := HD.out w1 b1; have HB1 : Hid (Below W.heap.size W w1) := b1; clear b1) | (go_at_call 91; refine Calls.mono (HG.out _ (by first | exact HB1.out | exact HB1.out.trans (same_heap rfl rfl rfl rfl))) ?_; rintro e w2 ⟨rfl, b2⟩; obtain ⟨u0, u1, u2, u3, u4, u5, u6, u7, u8, u9, u10, u11, u12⟩ := HD.out w2 b2; have HB2 : Hid (Below W.heap.size W w2) := b2; clear b2) | (go_at_call 59; refine Calls.mono (HP.out _ (by first | exact HB2.out | exact HB2.out.trans (same_heap rfl rfl rfl rfl))) ?_; rintro e w3 ⟨rfl, b3⟩; obtain ⟨v0, v1, v2, v3, v4, v5, v6, v7, v8, v9, v10, v11, v12⟩ := HD.out w3 b3; have HB3 : Hid (Below W.heap.size W w3) := b3; clear b3) | (go_at_call_of 92 (Value.string ⟨#[63]⟩); refine Calls.mono (HQ.out _ (by first | exact HB3.out | exact HB3.out.trans (same_heap rfl rfl rfl rfl))) ?_; rintro e w4 ⟨rfl, b4⟩; obtain ⟨p0, p1, p2, p3, p4, p5, p6, p7, p8, p9, p10, p11, p12⟩ := HD.out w4 b4; have HB4 : Hid (Below W.heap.size W w4) := b4; clear b4) | (go_at_call 92; refine Calls.mono (HF.out _ (by first | exact HB4.out | exact HB4.out.trans (same_heap rfl rfl rfl rfl))) ?_; rintro e w5 ⟨rfl, b5⟩; obtain ⟨q0, q1, q2, q3, q4, q5, q6, q7, q8, q9, q10, q11, q12⟩ := HD.out w5 b5; have HB5 : Hid (Below W.heap.size W w5) := b5; clear b5))
  all_goals
    go_wp2_with fail
    go_ret
    rw [HA.out]
    exact ⟨rfl, HBW.out w5 HB5.out⟩
end Go.Proofs
/-
  What moor.tell and moor.Parse answer.
-/
namespace Go.Proofs
open Go.RowKit Go.Moor

/-- A text and no error, or an empty text and the error's number. -/
def ParseRes (o : Except Int Bs) : Ending :=
  match o with
  | .error n => .returned (.tuple #[.string ⟨#[]⟩, .int .i64 n])
  | .ok t => .returned (.tuple #[.string ⟨t.toArray⟩, .int .i64 0])
def told (o : Except Int Adr) : Except Int Bs :=
  match o with
  | .error n => .error n
  | .ok a => .ok (tellAddr a)

set_option maxHeartbeats 4000000 in
set_option maxRecDepth 8000 in
theorem Tryz.tellBoth_any (o : Except Int Adr) (cs : Array Value) (v : Value) (w : World) (h : Tryz.AnyRes o (.returned (.tuple #[.agg cs, v])) w) (hs : ∀ a, o = .ok a → Small 1000000 1000000 a) (henv : Tryz.Env2 w) :
    Calls Tryz.prog 34 #[.agg cs, v] w fun e w' => e = ParseRes (told o) ∧ Below w.heap.size w w' := by
  obtain ⟨W, hW⟩ : ∃ W, W = w.alloc (.cells cs 77) := ⟨_, rfl⟩
  have hBW : Below w.heap.size w W := by
    rw [hW]
    exact (Below.refl _ _).alloc (Nat.le_refl _) _
  have hz0 : W.heap[w.heap.size]? = some (.cells cs 77 (0, 0)) := by rw [hW]; exact alloc_here w _ _
  have HZ : Hid (W.heap[w.heap.size]? = some (.cells cs 77 (0, 0))) := hz0
  have hsize : W.heap.size = w.heap.size + 1 := by rw [hW]; simp
  have HBW : Hid (∀ w1, Below W.heap.size W w1 → Below w.heap.size w w1) := fun w1 h1 => hBW.trans (h1.mono (by omega))
  obtain ⟨cs', v', he, hsz, hone⟩ := Tryz.anyRes_ret h
  injection he with he
  injection he with he
  simp at he
  obtain ⟨rfl, rfl⟩ := he
  have HZS : Hid ((Tryz.prog.info? 77).map (·.size) = some cs.size) := by show _ = _; rw [hsz]; exact Tryz.sizeAdr
  have hval : ∃ i, Tryz.prog.info? 77 = some i ∧ i.size = 13 := by
    have h1 := Tryz.sizeAdr
    cases hi : Tryz.prog.info? 77 with
    | none => rw [hi] at h1; simp at h1
    | some i => rw [hi] at h1; simp at h1; exact ⟨i, rfl, h1⟩
  cases o with
  | error n =>
    obtain ⟨v2, he, hv⟩ := h
    injection he with he
    injection he with he
    simp at he
    obtain ⟨rfl, rfl⟩ := he
    have HE : Hid (Calls Tryz.prog 33 #[v] W fun e w' => e = .returned (.int .i64 n) ∧ Below W.heap.size W w') := Tryz.errnoOf_any n v W hv (henv.below hBW).env
    have HN : Hid (∃ t u, v = .iface t u) := by rcases hv with ⟨_, _, _, _, rfl⟩ | ⟨_, _, _, _, _, rfl⟩ <;> exact ⟨_, _, rfl⟩
    clear hs henv hBW hz0 hsize hval hone hsz hv
    obtain ⟨t, u, rfl⟩ := HN.out
    clear HN
    go_enter Tryz.func34, Tryz.ntmps34
    go_upto_region 1 with fail
    rw [← hW]
    clear hW
    go_wp2_with fail
    refine Calls.mono HE.out ?_
    rintro e w1 ⟨rfl, b1⟩
    go_wp2_with fail
    go_ret2
    exact ⟨rfl, HBW.out w1 b1⟩
  | ok a =>
    have hsm := hs a rfl
    obtain ⟨v2, he, hv⟩ := h
    injection he with he
    injection he with he
    simp at he
    obtain ⟨hcs, rfl⟩ := he
    have HE : Hid (Calls Tryz.prog 57 #[.agg cs] W fun e w' => e = .returned (.string ⟨(tellAddr a).toArray⟩) ∧ Below W.heap.size W w') := by
      rw [hcs]
      exact Tryz.Tell_any' a v2 W (segRow_below hv hBW) hsm (henv.below hBW)
    clear hs henv hBW hz0 hsize hval hone hsz hv hcs hsm
    go_enter Tryz.func34, Tryz.ntmps34
    go_upto_region 1 with fail
    rw [← hW]
    clear hW
    go_wp2_with (refine wpList_load_row rfl 77 _ rfl w.heap.size rfl 77 cs (0, 0) _ HZ.out Tryz.underlying77 rfl HZS.out ?_)
    refine Calls.mono HE.out ?_
    rintro e w1 ⟨rfl, b1⟩
    go_wp2_with fail
    go_ret2
    exact ⟨rfl, HBW.out w1 b1⟩

theorem parse_told (t b : Bs) (h1 : t.length ≤ 2000) (h2 : b.length ≤ 2000) : parse hostTell t b = told (readBeside hostTell t b) := by
  unfold parse told
  rw [if_neg (by omega)]
  cases readBeside hostTell t b <;> rfl
theorem readBeside_small (t b : Bs) (h1 : t.length ≤ 2000) (h2 : b.length ≤ 2000) (a : Adr) (h : readBeside hostTell t b = .ok a) : Small 1000000 1000000 a := by
  have up : ∀ {M : Nat} {x : Adr}, Small 20000 M x → M ≤ 1000000 → Small 1000000 1000000 x := fun {M x} h hm => ⟨by have := h.scheme; omega, by have := h.user; omega, by have := h.pass; omega, by have := h.host; omega, h.port, by have := h.text; omega, Nat.le_trans h.count hm, fun x hx => by have := h.segs x hx; omega, by have := h.query; omega, by have := h.frag; omega⟩
  unfold readBeside at h
  split at h
  · exact up (readAddr_small t none 20000 0 a (by omega) (by simp) h) (by omega)
  · cases hb : readAddr hostTell b none with
    | error n => rw [hb] at h; simp at h
    | ok x =>
      rw [hb] at h
      have hx := readAddr_small b none 20000 0 x (by omega) (by simp) hb
      exact up (readAddr_small t (some x) 20000 _ a (by omega) (by rintro y hy; simp at hy; rw [← hy]; exact hx) h) (by omega)

set_option maxHeartbeats 4000000 in
theorem Tryz.Parse_any (t b : Bs) (w : World) (ht : t.length ≤ maxLen) (hb : b.length ≤ maxLen) (henv : Tryz.Env2 w) :
    Calls Tryz.prog 20 #[.string ⟨t.toArray⟩, .string ⟨b.toArray⟩] w fun e w' => e = ParseRes (parse hostTell t b) ∧ Below w.heap.size w w' := by
  by_cases h1 : t.length ≤ 2000
  · by_cases h2 : b.length ≤ 2000
    · have HL : Hid (∀ w1, Calls Tryz.prog 31 #[.string ⟨t.toArray⟩] w1 fun e w' => e = .returned (.bool false) ∧ w' = w1) := fun w1 => Tryz.isLong_no _ w1 (by rw [size_mk]; exact h1)
      have HM : Hid (∀ w1, Calls Tryz.prog 31 #[.string ⟨b.toArray⟩] w1 fun e w' => e = .returned (.bool false) ∧ w' = w1) := fun w1 => Tryz.isLong_no _ w1 (by rw [size_mk]; exact h2)
      have HR : Hid (Calls Tryz.prog 35 #[.string ⟨t.toArray⟩, .string ⟨b.toArray⟩] w fun e w' => Tryz.AnyRes (readBeside hostTell t b) e w' ∧ Below w.heap.size w w') := Tryz.ReadBeside_any t b w h1 h2 henv
      have HP : Hid (parse hostTell t b = told (readBeside hostTell t b)) := parse_told t b h1 h2
      have HT : Hid (∀ cs v w1, Below w.heap.size w w1 → Tryz.AnyRes (readBeside hostTell t b) (.returned (.tuple #[.agg cs, v])) w1 → Calls Tryz.prog 34 #[.agg cs, v] w1 fun e w' => e = ParseRes (told (readBeside hostTell t b)) ∧ Below w.heap.size w w') := by
        intro cs v w1 hb1 hr
        refine (Tryz.tellBoth_any _ cs v w1 hr (fun a h => readBeside_small t b h1 h2 a h) (henv.below hb1)).mono ?_
        rintro e w' ⟨rfl, hb2⟩
        exact ⟨rfl, hb1.trans (hb2.mono hb1.size)⟩
      have HX : Hid (∃ x y, ParseRes (told (readBeside hostTell t b)) = .returned (.tuple #[x, y])) := by
        cases readBeside hostTell t b <;> exact ⟨_, _, rfl⟩
      rw [HP.out]
      generalize readBeside hostTell t b = res at *
      generalize (⟨t.toArray⟩ : ByteArray) = x at *
      generalize (⟨b.toArray⟩ : ByteArray) = y at *
      clear ht hb h1 h2 henv HP
      go_enter Tryz.func20, Tryz.ntmps20
      go_wp2_with (first | (go_at_call_of 31 (Value.string x); refine (HL.out _).mono ?_; rintro e W0 ⟨rfl, hw0⟩; have hw0 := hw0.symm; subst hw0) | (go_at_call_of 31 (Value.string y); refine (HM.out _).mono ?_; rintro e W0 ⟨rfl, hw0⟩; have hw0 := hw0.symm; subst hw0))
      refine HR.out.mono ?_
      rintro e w1 ⟨hr, b1⟩
      obtain ⟨cs, v, rfl, _, _⟩ := Tryz.anyRes_ret hr
      have HT2 : Hid (Calls Tryz.prog 34 #[.agg cs, v] w1 fun e w' => e = ParseRes (told res) ∧ Below w.heap.size w w') := HT.out cs v w1 b1 hr
      clear hr b1
      go_wp2_with fail
      refine HT2.out.mono ?_
      rintro e w2 ⟨he, b2⟩
      obtain ⟨p, q, hpq⟩ := HX.out
      rw [hpq] at he
      subst he
      go_wp2_with fail
      go_ret2
      exact ⟨hpq.symm, b2⟩
    · have HL : Hid (∀ w1, Calls Tryz.prog 31 #[.string ⟨t.toArray⟩] w1 fun e w' => e = .returned (.bool false) ∧ w' = w1) := fun w1 => Tryz.isLong_no _ w1 (by rw [size_mk]; exact h1)
      have HM : Hid (∀ w1, Calls Tryz.prog 31 #[.string ⟨b.toArray⟩] w1 fun e w' => e = .returned (.bool true) ∧ w' = w1) := fun w1 => Tryz.isLong_yes _ w1 (by rw [size_mk]; omega) (by rw [size_mk]; exact hb)
      have HP : Hid (parse hostTell t b = .error 1) := by show _ = _; unfold parse; rw [if_pos (by omega)]
      rw [HP.out]
      generalize (⟨t.toArray⟩ : ByteArray) = x at *
      generalize (⟨b.toArray⟩ : ByteArray) = y at *
      clear ht hb h1 h2 henv HP
      go_enter Tryz.func20, Tryz.ntmps20
      go_wp2_with (first | (go_at_call_of 31 (Value.string x); refine (HL.out _).mono ?_; rintro e W0 ⟨rfl, hw0⟩; have hw0 := hw0.symm; subst hw0) | (go_at_call_of 31 (Value.string y); refine (HM.out _).mono ?_; rintro e W0 ⟨rfl, hw0⟩; have hw0 := hw0.symm; subst hw0))
      go_ret2
      exact ⟨rfl, Below.refl _ _⟩
  · have HL : Hid (∀ w1, Calls Tryz.prog 31 #[.string ⟨t.toArray⟩] w1 fun e w' => e = .returned (.bool true) ∧ w' = w1) := fun w1 => Tryz.isLong_yes _ w1 (by rw [size_mk]; omega) (by rw [size_mk]; exact ht)
    have HP : Hid (parse hostTell t b = .error 1) := by show _ = _; unfold parse; rw [if_pos (by omega)]
    rw [HP.out]
    generalize (⟨t.toArray⟩ : ByteArray) = x at *
    generalize (⟨b.toArray⟩ : ByteArray) = y at *
    clear ht hb h1 henv HP
    go_enter Tryz.func20, Tryz.ntmps20
    go_wp2_with (go_at_call 31; refine (HL.out _).mono ?_; rintro e W0 ⟨rfl, hw0⟩; have hw0 := hw0.symm; subst hw0)
    go_ret2
    exact ⟨rfl, Below.refl _ _⟩
end Go.Proofs
