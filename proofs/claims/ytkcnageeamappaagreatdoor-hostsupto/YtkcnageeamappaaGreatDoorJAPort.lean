/-
  What cutLogin, cutPort and readPort of package address answer.
-/
import Derived.Test.YtkcnageeamappaaGreatDoorJAOpt
namespace Go.Proofs
open Go.RowKit Go.Moor

theorem cutLast_hit (c : UInt8) (a b : Bs) (hb : ∀ x ∈ b, x ≠ c) : cutLast c (a ++ c :: b) = some (a, b) := by
  have key : ∀ p r : Bs, (∀ x ∈ p, x ≠ c) → cutB c (p ++ c :: r) = some (p, r) := by
    intro p r
    induction p with
    | nil => intro _; simp [cutB]
    | cons y p ih =>
      intro h
      show cutB c (y :: (p ++ c :: r)) = _
      rw [cutB, if_neg (h y (by simp)), ih (fun x hx => h x (by simp [hx]))]
      rfl
  unfold cutLast
  have e : (a ++ c :: b).reverse = b.reverse ++ c :: a.reverse := by simp
  rw [e, key b.reverse a.reverse (fun x hx => hb x (by simpa using hx))]
  simp
theorem cutLast_miss (c : UInt8) (l : Bs) (h : ∀ x ∈ l, x ≠ c) : cutLast c l = none := by
  have key : ∀ l : Bs, (∀ x ∈ l, x ≠ c) → cutB c l = none := by
    intro l
    induction l with
    | nil => intro _; rfl
    | cons b l ih =>
      intro h
      rw [cutB, if_neg (h b (by simp)), ih (fun x hx => h x (by simp [hx]))]
      rfl
  unfold cutLast
  rw [key l.reverse (fun x hx => h x (by simpa using hx))]
  rfl
theorem byte_bang (l : Bs) (j : Nat) (h : j < l.length) : ((⟨l.toArray⟩ : ByteArray).data[j]!) = l[j] := by
  show l.toArray[j]! = l[j]
  simp [h]
theorem login_split (l : Bs) : (Lib.lastIndexByte ⟨l.toArray⟩ 64 = -1 ∧ cutLogin l = ([], l)) ∨ ∃ p r : Bs, l = p ++ 64 :: r ∧ Lib.lastIndexByte ⟨l.toArray⟩ 64 = p.length ∧ cutLogin l = (p, r) := by
  have hsz : (⟨l.toArray⟩ : ByteArray).size = l.length := size_mk l
  rcases Lib.lastIdx_spec ⟨l.toArray⟩ 64 (⟨l.toArray⟩ : ByteArray).size with ⟨h1, h2⟩ | ⟨i, hi, h1, h2, h3⟩
  · left
    refine ⟨h1, ?_⟩
    have hm : ∀ x ∈ l, x ≠ 64 := by
      intro x hx e
      obtain ⟨j, hj, rfl⟩ := List.getElem_of_mem hx
      have := h2 j (by rw [hsz]; exact hj)
      rw [byte_bang l j hj, e] at this
      exact this rfl
    unfold cutLogin
    rw [cutLast_miss 64 l hm]
  · right
    rw [hsz] at hi
    have hli : l[i] = 64 := by
      rw [byte_bang l i hi] at h2
      apply UInt8.toNat_inj.1
      have : (l[i].toNat : Int) = 64 := h2
      show l[i].toNat = 64
      omega
    have hl : l = l.take i ++ 64 :: l.drop (i + 1) := by
      rw [← hli]
      simp
    have hr : ∀ x ∈ l.drop (i + 1), x ≠ 64 := by
      intro x hx e
      obtain ⟨j, hj, hjx⟩ := List.getElem_of_mem hx
      rw [List.length_drop] at hj
      rw [List.getElem_drop] at hjx
      have := h3 (i + 1 + j) (by omega) (by rw [hsz]; omega)
      rw [byte_bang l (i + 1 + j) (by omega), hjx, e] at this
      exact this rfl
    refine ⟨l.take i, l.drop (i + 1), hl, ?_, ?_⟩
    · show Lib.lastIdx _ _ _ = _
      rw [h1, List.length_take]
      omega
    · unfold cutLogin
      have := cutLast_hit 64 (l.take i) (l.drop (i + 1)) hr
      rw [← hl] at this
      rw [this]

theorem cut_behind (p r : Bs) (c : UInt8) : (⟨(p ++ c :: r).toArray⟩ : ByteArray).extract (p.length + 1) (p.length + (r.length + 1)) = ⟨r.toArray⟩ := by
  apply bytes_ext'
  rw [Lib.extract_data]
  have : (p ++ c :: r).drop (p.length + 1) = r := by simp
  show List.take (p.length + (r.length + 1) - (p.length + 1)) ((p ++ c :: r).drop (p.length + 1)) = r
  rw [this]
  exact List.take_of_length_le (by omega)
set_option maxHeartbeats 1000000 in
theorem Tryz.cutLogin_any (l : Bs) (w : World) (hs : l.length < 4294967281) :
    Calls Tryz.prog 304 #[.string ⟨l.toArray⟩] w fun e w' => e = .returned (.tuple #[.string ⟨(cutLogin l).1.toArray⟩, .string ⟨(cutLogin l).2.toArray⟩]) ∧ ∃ n, w' = w.drewN n := by
  have HI : Hid (Calls Tryz.prog 316 #[.string ⟨l.toArray⟩, .int .u8 64] w fun e w' => e = .returned (.int .i64 (Lib.lastIndexByte ⟨l.toArray⟩ 64)) ∧ w' = w) := Tryz.strings_LastIndexByte ⟨l.toArray⟩ 64 (by rw [size_mk]; omega) w
  rcases login_split l with ⟨h1, h2⟩ | ⟨p, r, hl, h1, h2⟩
  · have HE : Hid (cutLogin l = ([], l)) := h2
    rw [h1] at HI
    clear h1 h2
    go_enter Tryz.func304, Tryz.ntmps304
    go_wp2_with fail
    refine HI.out.mono ?_
    rintro e w' ⟨rfl, hw0⟩
    have hw0 := hw0.symm
    subst hw0
    go_wp2
    go_ret2
    rw [HE.out]
    exact ⟨rfl, 0, rfl⟩
  · have HE : Hid (cutLogin l = (p, r)) := h2
    rw [h1] at HI
    have hlen : l.length = p.length + (r.length + 1) := by rw [hl]; simp
    have hsz : (⟨l.toArray⟩ : ByteArray).size = p.length + (r.length + 1) := by rw [size_mk, hlen]
    have e1 : (⟨l.toArray⟩ : ByteArray).extract 0 p.length = ⟨p.toArray⟩ := by rw [hl]; exact cut_take p (64 :: r)
    have e2 : (⟨l.toArray⟩ : ByteArray).extract (p.length + 1) (p.length + (r.length + 1)) = ⟨r.toArray⟩ := by rw [hl]; exact cut_behind p r 64
    have hz1 : ((p.length : Int)) ≤ ((⟨l.toArray⟩ : ByteArray).size : Int) := by rw [hsz]; omega
    have hz2 : ((p.length : Int) + 1) ≤ ((⟨l.toArray⟩ : ByteArray).size : Int) := by rw [hsz]; omega
    have r1 : ∀ W, (Instr.slice 9 (.string ⟨l.toArray⟩) none (some (.int .i64 p.length)) none).run Tryz.prog W = .ok (.string ⟨p.toArray⟩) W := fun W => by
      rw [run_slice_string_to_if W 9 _ .i64 _ Tryz.underlying9, if_pos ⟨by omega, hz1⟩, Int.toNat_natCast, e1]
    have r2 : ∀ W, (Instr.slice 9 (.string ⟨l.toArray⟩) (some (.int .i64 ((p.length : Int) + 1))) none none).run Tryz.prog W = .ok (.string ⟨r.toArray⟩) W := fun W => by
      rw [run_slice_string_from_if W 9 _ .i64 _ Tryz.underlying9, if_pos ⟨by omega, hz2⟩, show ((p.length : Int) + 1).toNat = p.length + 1 by omega, hsz, e2]
    have hw1 : IntKind.i64.wrap ((p.length : Int) + 1) = (p.length : Int) + 1 := wrap_i64 _ (by omega) (by omega)
    clear h1 h2 hl
    go_enter Tryz.func304, Tryz.ntmps304
    go_wp2_with fail
    refine HI.out.mono ?_
    rintro e w' ⟨rfl, hw0⟩
    have hw0 := hw0.symm
    subst hw0
    go_wp2
    go_quiet (fail)
    go_wp2
    go_ret2
    rw [HE.out]
    exact ⟨rfl, _, rfl⟩

-- ports
theorem decAcc_ge : ∀ (l : Bs) (n : Nat), n ≤ decAcc n l
  | [], n => Nat.le_refl _
  | d :: l, n => by
    have := decAcc_ge l (n * 10 + (d.toNat - 48))
    show n ≤ decAcc (n * 10 + (d.toNat - 48)) l
    omega
theorem parse_all (M : Nat) (hM : M < 1844674407370955162) : ∀ (l : Bs) (acc : Nat), (∀ c ∈ l, isDigit c = true) → decAcc acc l ≤ M → Lib.parseUintM M acc l = .ok (decAcc acc l)
  | [], acc, _, _ => rfl
  | c :: l, acc, hd, hle => by
    have hc := hd c (by simp)
    unfold isDigit at hc
    simp at hc
    have hle' : decAcc (acc * 10 + (c.toNat - 48)) l ≤ M := hle
    have hg := decAcc_ge l (acc * 10 + (c.toNat - 48))
    rw [Lib.parseUintM, if_pos hc, if_neg (by omega), if_neg (by omega), parse_all M hM l _ (fun x hx => hd x (by simp [hx])) hle']
    rfl
theorem parse_bad (M : Nat) (hM : M < 1844674407370955162) : ∀ (l : Bs) (acc : Nat), acc ≤ M → ¬ ((∀ c ∈ l, isDigit c = true) ∧ decAcc acc l ≤ M) → Lib.parseUintM M acc l = .«syntax» ∨ Lib.parseUintM M acc l = .range
  | [], acc, h, hf => absurd ⟨by simp, h⟩ hf
  | c :: l, acc, h, hf => by
    by_cases hd : 48 ≤ c.toNat ∧ c.toNat ≤ 57
    · rw [Lib.parseUintM, if_pos hd, if_neg (by omega)]
      by_cases h2 : M < acc * 10 + (c.toNat - 48)
      · rw [if_pos h2]
        exact Or.inr rfl
      · rw [if_neg h2]
        refine parse_bad M hM l _ (by omega) (fun x => hf ⟨?_, x.2⟩)
        intro y hy
        rcases List.mem_cons.1 hy with rfl | hy
        · unfold isDigit
          simp
          exact hd
        · exact x.1 y hy
    · rw [Lib.parseUintM, if_neg hd]
      exact Or.inl rfl

/-- A port and no error, or none and an error of number 5. -/
def Tryz.PortRes (o : Option Int) (e : Ending) : Prop :=
  match o with
  | some p => e = .returned (.tuple #[.int .i64 p, .nilIface])
  | none => ∃ x y t v, e = .returned (.tuple #[.int .i64 (-1), .iface 96 (.agg #[.int .i64 5, .string x, .string y, .iface t v])])

set_option maxHeartbeats 400000 in
theorem Tryz.portBeside_any (p : Int) (sc : Bs) (w : World) :
    Calls Tryz.prog 159 #[.int .i64 p, .string ⟨sc.toArray⟩] w fun e w' => e = .returned (.int .i64 (if p = (ownPort sc).1 then -1 else p)) ∧ w' = w := by
  have HO : Hid (∀ W, Calls Tryz.prog 185 #[.string ⟨sc.toArray⟩] W fun e w' => e = .returned (.tuple #[.int .i64 (ownPort sc).1, .bool (ownPort sc).2]) ∧ w' = W) := fun W => Tryz.ownPort_any ⟨sc.toArray⟩ W
  generalize (ownPort sc).1 = own at *
  by_cases ho : p = own
  · subst ho
    rw [if_pos rfl]
    go_enter Tryz.func159, Tryz.ntmps159
    go_wp2_with fail
    refine (HO.out _).mono ?_
    rintro e w2 ⟨rfl, hw0⟩
    have hw0 := hw0.symm
    subst hw0
    go_wp2
    go_ret
    exact ⟨rfl, rfl⟩
  · rw [if_neg ho]
    go_enter Tryz.func159, Tryz.ntmps159
    go_wp2_with fail
    refine (HO.out _).mono ?_
    rintro e w2 ⟨rfl, hw0⟩
    have hw0 := hw0.symm
    subst hw0
    go_wp2
    go_ret
    exact ⟨rfl, rfl⟩

set_option maxHeartbeats 2000000 in
theorem Tryz.readPort_any (l sc : Bs) (w : World) (hs : l.length < 4294967281) (henv : Tryz.Env2 w) :
    Calls Tryz.prog 210 #[.string ⟨l.toArray⟩, .string ⟨sc.toArray⟩] w fun e w' => Tryz.PortRes (readPort l sc) e ∧ Below w.heap.size w w' := by
  have HO : Hid (∀ W, Calls Tryz.prog 185 #[.string ⟨sc.toArray⟩] W fun e w' => e = .returned (.tuple #[.int .i64 (ownPort sc).1, .bool (ownPort sc).2]) ∧ w' = W) := fun W => Tryz.ownPort_any ⟨sc.toArray⟩ W
  by_cases hem : l = []
  · subst hem
    have HE : Hid (readPort [] sc = some (-1)) := rfl
    have he : (⟨([] : List UInt8).toArray⟩ : ByteArray).toList.isEmpty = true := by rw [Lib.toList_data]; rfl
    go_enter Tryz.func210, Tryz.ntmps210
    go_wp2
    go_ret2
    rw [HE.out]
    exact ⟨rfl, Below.refl _ _⟩
  · have hee : l.isEmpty = false := by cases l with | nil => exact absurd rfl hem | cons c r => rfl
    have he : (⟨l.toArray⟩ : ByteArray).toList.isEmpty = false := by rw [Lib.toList_data]; exact hee
    have hp : Lib.parseUintB 16 (⟨l.toArray⟩ : ByteArray).data.toList = Lib.parseUintM 65535 0 l := by
      show Lib.parseUintB 16 l = _
      unfold Lib.parseUintB
      rw [if_neg hem]
    cases hg : (l.all isDigit && decide (decAcc 0 l ≤ 65535)) with
    | true =>
      have hok : Lib.parseUintB 16 (⟨l.toArray⟩ : ByteArray).data.toList = .ok (decAcc 0 l) := by
        rw [Bool.and_eq_true] at hg
        rw [hp, parse_all 65535 (by omega) l 0 (List.all_eq_true.1 hg.1) (of_decide_eq_true hg.2)]
      have hle : decAcc 0 l ≤ 65535 := by rw [Bool.and_eq_true] at hg; exact of_decide_eq_true hg.2
      have HP : Hid (Calls Tryz.prog 249 #[.string ⟨l.toArray⟩, .int .i64 10, .int .i64 16] w fun e w' => e = .returned (.tuple #[.int .u64 (decAcc 0 l : Nat), .nilIface]) ∧ Below w.heap.size w w') := by
        refine (Tryz.strconv_ParseUint_10_at16_ok ⟨l.toArray⟩ (by rw [size_mk]; omega) (decAcc 0 l) hok w).mono ?_
        rintro e w' ⟨rfl, h⟩
        refine ⟨rfl, ?_⟩
        rcases h with rfl | rfl
        · exact Below.refl _ _
        · exact Lib.bytesWorld_below _ _ _
      have HE : Hid (readPort l sc = if ((decAcc 0 l : Nat) : Int) = (ownPort sc).1 then some (-1 : Int) else some ((decAcc 0 l : Nat) : Int)) := by
        show _ = _
        unfold readPort
        rw [if_neg hem, if_pos hg]
      clear hok hp hg hem
      generalize decAcc 0 l = P at *
      have HPB : Hid (∀ W, Calls Tryz.prog 159 #[.int .i64 (P : Nat), .string ⟨sc.toArray⟩] W fun e w' => e = .returned (.int .i64 (if ((P : Nat) : Int) = (ownPort sc).1 then -1 else ((P : Nat) : Int))) ∧ w' = W) := fun W => Tryz.portBeside_any _ sc W
      have HE2 : Hid (readPort l sc = some (if ((P : Nat) : Int) = (ownPort sc).1 then (-1 : Int) else ((P : Nat) : Int))) := by show _ = _; rw [HE.out]; split <;> rfl
      generalize (if ((P : Nat) : Int) = (ownPort sc).1 then (-1 : Int) else ((P : Nat) : Int)) = R at *
      obtain ⟨s, hsd⟩ : ∃ s : ByteArray, s = ⟨l.toArray⟩ := ⟨_, rfl⟩
      rw [← hsd] at he HP ⊢
      clear hsd hee HE HO
      go_enter Tryz.func210, Tryz.ntmps210
      go_wp2_with fail
      refine HP.out.mono ?_
      rintro e w1 ⟨rfl, b1⟩
      go_wp2_with fail
      refine (HPB.out _).mono ?_
      rintro e w2 ⟨rfl, hw0⟩
      have hw0 := hw0.symm
      subst hw0
      go_wp2
      go_ret2
      rw [HE2.out]
      exact ⟨rfl, b1⟩
    | false =>
      have HE : Hid (readPort l sc = none) := by
        show _ = _
        unfold readPort
        rw [if_neg hem, if_neg (by simp [hg])]
      have HP : Hid (Calls Tryz.prog 249 #[.string ⟨l.toArray⟩, .int .i64 10, .int .i64 16] w fun e w' => (∃ u t v, e = .returned (.tuple #[.int .u64 u, .iface t v])) ∧ Below w.heap.size w w') := by
        rcases parse_bad 65535 (by omega) l 0 (by omega) (fun x => by
          have h1 : l.all isDigit = true := List.all_eq_true.2 x.1
          rw [h1, decide_eq_true x.2] at hg
          cases hg) with h | h
        · obtain ⟨te, ve, hc⟩ := henv.eSyntax
          refine (Tryz.strconv_ParseUint_10_at16_syntax ⟨l.toArray⟩ (by rw [size_mk]; omega) (by rw [hp, h]) (.iface te ve) w hc (Or.inr ⟨te, ve, rfl⟩)).mono ?_
          rintro e w' ⟨N, rfl, _, _, hb⟩
          exact ⟨⟨_, _, _, rfl⟩, hb⟩
        · obtain ⟨te, ve, hc⟩ := henv.eRange
          refine (Tryz.strconv_ParseUint_10_at16_range ⟨l.toArray⟩ (by rw [size_mk]; omega) (by rw [hp, h]) (.iface te ve) w hc (Or.inr ⟨te, ve, rfl⟩)).mono ?_
          rintro e w' ⟨N, rfl, _, _, hb⟩
          exact ⟨⟨_, _, _, rfl⟩, hb⟩
      clear hp hg hem
      obtain ⟨s, hsd⟩ : ∃ s : ByteArray, s = ⟨l.toArray⟩ := ⟨_, rfl⟩
      rw [← hsd] at he HP ⊢
      clear hsd hee
      go_enter Tryz.func210, Tryz.ntmps210
      go_wp2_with fail
      refine HP.out.mono ?_
      rintro e w1 ⟨⟨u, t, v, rfl⟩, b1⟩
      go_wp2
      go_ret2
      rw [HE.out]
      exact ⟨⟨_, _, _, _, rfl⟩, b1⟩
end Go.Proofs
/-
  What cutPort of package address answers.
-/
namespace Go.Proofs
open Go.RowKit Go.Moor

theorem prefix_head (l : Bs) : Lib.hasPrefix l [91] = decide (l.head? = some 91) := by
  unfold Lib.hasPrefix
  cases l with
  | nil => rfl
  | cons c l =>
    show ((91 == c) && List.isPrefixOf [] l) = _
    by_cases h : c = 91
    · subst h; simp
    · have h2 : ¬ (91 : UInt8) = c := fun e => h e.symm
      simp [h, h2]
theorem cutB_index (c : UInt8) (l : Bs) : (Lib.indexByte l c = -1 ∧ cutB c l = none) ∨ ∃ p r : Bs, l = p ++ c :: r ∧ Lib.indexByte l c = p.length ∧ cutB c l = some (p, r) := by
  have h := cut_cutB c l
  rcases indexByte_split c l with ⟨h1, h2⟩ | ⟨p, r, hl, h2, h3⟩
  · left
    refine ⟨h1, ?_⟩
    cases hc : cutB c l with
    | none => rfl
    | some q =>
      have := cutB_parts c l q.1 q.2 hc
      exact absurd rfl (h2 c (by rw [this]; simp))
  · right
    refine ⟨p, r, hl, h3, ?_⟩
    rw [hl]
    have key : ∀ p : Bs, (∀ x ∈ p, x ≠ c) → cutB c (p ++ c :: r) = some (p, r) := by
      intro p
      induction p with
      | nil => intro _; simp [cutB]
      | cons y p ih =>
        intro h
        show cutB c (y :: (p ++ c :: r)) = _
        rw [cutB, if_neg (h y (by simp)), ih (fun x hx => h x (by simp [hx]))]
        rfl
    exact key p h2
theorem cutPort_opt (t : Bs) : cutPort t = (t.take (brackets t) ++ (cutOpt 58 (t.drop (brackets t))).1, (cutOpt 58 (t.drop (brackets t))).2.getD []) := by
  unfold cutPort cutOpt
  cases cutB 58 (t.drop (brackets t)) with
  | none => simp
  | some p => rfl

set_option maxHeartbeats 2000000 in
theorem Tryz.cutPort_at (l : Bs) (k : Nat) (w : World) (hs : l.length < 4294967281) (hk : k ≤ l.length) (hbk : brackets l = k) (henv : Tryz.Env w) (hpf : (Lib.hasPrefix l [91] = true ∧ Lib.indexByte l 93 = (k : Int) - 1) ∨ (Lib.hasPrefix l [91] = false ∧ k = 0)) :
    Calls Tryz.prog 305 #[.string ⟨l.toArray⟩] w fun e w' => e = .returned (.tuple #[.string ⟨(cutPort l).1.toArray⟩, .string ⟨(cutPort l).2.toArray⟩]) ∧ ∃ n, w' = w.drewN n := by
  obtain ⟨m, hm⟩ := henv.maxLen
  have HE : Hid (cutPort l = (l.take k ++ (cutOpt 58 (l.drop k)).1, (cutOpt 58 (l.drop k)).2.getD [])) := by show _ = _; rw [cutPort_opt, hbk]
  have HC : Hid (Calls Tryz.prog 112 #[.string ⟨(l.drop k).toArray⟩, .string ⟨#[58]⟩] w fun e w' => e = .returned (.tuple #[.string ⟨(cutOpt 58 (l.drop k)).1.toArray⟩, .string ⟨((cutOpt 58 (l.drop k)).2.getD []).toArray⟩, .bool (cutOpt 58 (l.drop k)).2.isSome]) ∧ ∃ n, w' = w.drewN n) := Tryz.cut_byte ⟨(l.drop k).toArray⟩ 58 m w (by rw [size_mk, List.length_drop]; omega) hm
  have HP : Hid (Calls Tryz.prog 82 #[.string ⟨l.toArray⟩, .string ⟨#[91]⟩] w fun e w' => e = .returned (.bool (Lib.hasPrefix l [91])) ∧ w' = w) := Tryz.strings_HasPrefix ⟨l.toArray⟩ ⟨#[91]⟩ w
  have HI : Hid (Calls Tryz.prog 141 #[.string ⟨l.toArray⟩, .int .u8 93] w fun e w' => e = .returned (.int .i64 (Lib.indexByte l 93)) ∧ w' = w) := Tryz.strings_IndexByte ⟨l.toArray⟩ 93 w
  have hcl := (cutOpt_len 58 (l.drop k)).1
  rw [List.length_drop] at hcl
  have hsz : (⟨l.toArray⟩ : ByteArray).size = l.length := size_mk l
  have e1 : (⟨l.toArray⟩ : ByteArray).extract k l.length = ⟨(l.drop k).toArray⟩ := by
    apply bytes_ext'
    rw [Lib.extract_data]
    show List.take (l.length - k) (l.drop k) = l.drop k
    exact List.take_of_length_le (by rw [List.length_drop]; omega)
  have e2 : (⟨l.toArray⟩ : ByteArray).extract 0 k = ⟨(l.take k).toArray⟩ := by
    apply bytes_ext'
    rw [Lib.extract_data]
    simp
  have hz : ((k : Int)) ≤ ((⟨l.toArray⟩ : ByteArray).size : Int) := by rw [hsz]; omega
  have r1 : ∀ W, (Instr.slice 9 (.string ⟨l.toArray⟩) (some (.int .i64 k)) none none).run Tryz.prog W = .ok (.string ⟨(l.drop k).toArray⟩) W := fun W => by
    rw [run_slice_string_from_if W 9 _ .i64 _ Tryz.underlying9, if_pos ⟨by omega, hz⟩, Int.toNat_natCast, hsz, e1]
  have r2 : ∀ W, (Instr.slice 9 (.string ⟨l.toArray⟩) none (some (.int .i64 k)) none).run Tryz.prog W = .ok (.string ⟨(l.take k).toArray⟩) W := fun W => by
    rw [run_slice_string_to_if W 9 _ .i64 _ Tryz.underlying9, if_pos ⟨by omega, hz⟩, Int.toNat_natCast, e2]
  have HA : Hid ((⟨(l.take k).toArray⟩ : ByteArray) ++ ⟨(cutOpt 58 (l.drop k)).1.toArray⟩ = ⟨(l.take k ++ (cutOpt 58 (l.drop k)).1).toArray⟩) := app_mk _ _
  have htl : (l.take k).length = k := by rw [List.length_take]; omega
  clear hm henv e1 e2 hbk
  generalize (cutOpt 58 (l.drop k)).1 = A at *
  generalize (cutOpt 58 (l.drop k)).2.getD [] = B at *
  generalize (cutOpt 58 (l.drop k)).2.isSome = bo at *
  generalize l.take k = T at *
  generalize l.drop k = D at *
  rcases hpf with ⟨h1, h2⟩ | ⟨h1, h2⟩
  · rw [h1] at HP
    rw [h2] at HI
    clear h1 h2
    have hw1 : IntKind.i64.wrap ((k : Int) - 1 + 1) = k := by rw [wrap_i64 _ (by omega) (by omega)]; omega
    have hw2 : (k : Int) - 1 + 1 = k := by omega
    go_enter Tryz.func305, Tryz.ntmps305
    go_wp2_with fail
    refine HP.out.mono ?_
    rintro e w' ⟨rfl, hw0⟩
    have hw0 := hw0.symm
    subst hw0
    go_wp2_with fail
    refine HI.out.mono ?_
    rintro e w' ⟨rfl, hw0⟩
    have hw0 := hw0.symm
    subst hw0
    go_wp2_with fail
    refine HC.out.mono ?_
    rintro e w2 ⟨rfl, n, rfl⟩
    go_wp2
    go_ret2
    rw [HE.out]
    refine ⟨?_, n, rfl⟩
    simp only [HA.out]
    rfl
  · have r3 : ∀ W, (Instr.slice 9 (.string ⟨l.toArray⟩) (some (.int .i64 0)) none none).run Tryz.prog W = .ok (.string ⟨D.toArray⟩) W := by
      intro W
      have := r1 W
      rw [h2] at this
      exact this
    have r4 : ∀ W, (Instr.slice 9 (.string ⟨l.toArray⟩) none (some (.int .i64 0)) none).run Tryz.prog W = .ok (.string ⟨T.toArray⟩) W := by
      intro W
      have := r2 W
      rw [h2] at this
      exact this
    rw [h1] at HP
    have htl2 : T.length ≤ 0 := by omega
    have hal : A.length < 4294967281 := by omega
    clear h1 h2 r1 r2 hz hk htl hcl
    go_enter Tryz.func305, Tryz.ntmps305
    go_wp2_with fail
    refine HP.out.mono ?_
    rintro e w' ⟨rfl, hw0⟩
    have hw0 := hw0.symm
    subst hw0
    go_wp2_with fail
    refine HC.out.mono ?_
    rintro e w2 ⟨rfl, n, rfl⟩
    go_wp2
    go_ret2
    rw [HE.out]
    refine ⟨?_, n, rfl⟩
    simp only [HA.out]
    rfl
theorem Tryz.cutPort_any (l : Bs) (w : World) (hs : l.length < 4294967281) (henv : Tryz.Env w) :
    Calls Tryz.prog 305 #[.string ⟨l.toArray⟩] w fun e w' => e = .returned (.tuple #[.string ⟨(cutPort l).1.toArray⟩, .string ⟨(cutPort l).2.toArray⟩]) ∧ ∃ n, w' = w.drewN n := by
  by_cases hh : l.head? = some 91
  · have hp : Lib.hasPrefix l [91] = true := by rw [prefix_head, decide_eq_true hh]
    rcases cutB_index 93 l with ⟨h1, h2⟩ | ⟨p, r, hl, h1, h2⟩
    · refine Tryz.cutPort_at l 0 w hs (by omega) (by unfold brackets; rw [if_pos hh, h2]) henv (Or.inl ⟨hp, by rw [h1]; rfl⟩)
    · have hlen : l.length = p.length + (r.length + 1) := by rw [hl]; simp
      refine Tryz.cutPort_at l (p.length + 1) w hs (by omega) (by unfold brackets; rw [if_pos hh, h2]) henv (Or.inl ⟨hp, by rw [h1]; omega⟩)
  · exact Tryz.cutPort_at l 0 w hs (by omega) (by unfold brackets; rw [if_neg hh]) henv (Or.inr ⟨by rw [prefix_head, decide_eq_false hh], rfl⟩)
end Go.Proofs
