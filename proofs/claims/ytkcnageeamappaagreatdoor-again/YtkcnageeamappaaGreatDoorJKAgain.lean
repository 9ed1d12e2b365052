/-
  Plain mathematics: what is told of hosts is told again as itself; what bytes stand in it; hosts with brackets in the wrong place are none.
-/
import Derived.Test.YtkcnageeamappaaGreatDoorJGKeep
import Derived.Test.YtkcnageeamappaaGreatDoorJSxWhole
import Derived.Test.YtkcnageeamappaaGreatDoorJAWritten2
import Derived.Test.YtkcnageeamappaaGreatDoorJLaidK
import Derived.Test.YtkcnageeamappaaGreatDoorJKWords2
import Derived.Deep.DeepCutAuto
namespace Go.Moor
open Go

-- bytes
theorem badS_fin : ∀ c : Fin 256, badS c.val.toUInt8 = false → 33 ≤ c.val ∧ c.val ≤ 126 ∧ c.val ≠ 35 ∧ c.val ≠ 47 ∧ c.val ≠ 63 ∧ c.val ≠ 64 ∧ c.val ≠ 92 ∧ c.val ≠ 124 ∧ c.val ≠ 58 ∧ c.val ≠ 91 ∧ c.val ≠ 37 ∧ badS (Lib.lowerB c.val.toUInt8) = false := by decide +kernel
theorem badS_out (c : UInt8) (h : badS c = false) : (33 ≤ c.toNat ∧ c.toNat ≤ 126 ∧ c ≠ 35 ∧ c ≠ 47 ∧ c ≠ 63 ∧ c ≠ 64 ∧ c ≠ 92 ∧ c ≠ 124) ∧ c ≠ 58 ∧ c ≠ 91 ∧ c ≠ 37 ∧ badS (Lib.lowerB c) = false := by
  have := badS_fin ⟨c.toNat, c.toNat_lt⟩ (by simpa using h)
  obtain ⟨h1, h2, h3, h4, h5, h6, h7, h8, h9, h10, h11, h12⟩ := this
  exact ⟨⟨h1, h2, ne_toNat c 35 h3 (by omega), ne_toNat c 47 h4 (by omega), ne_toNat c 63 h5 (by omega), ne_toNat c 64 h6 (by omega), ne_toNat c 92 h7 (by omega), ne_toNat c 124 h8 (by omega)⟩, ne_toNat c 58 h9 (by omega), ne_toNat c 91 h10 (by omega), ne_toNat c 37 h11 (by omega), by simpa using h12⟩
theorem badP_fin : ∀ c : Fin 256, badP c.val.toUInt8 = false → holdsB 0 c.val = false → 33 ≤ c.val ∧ c.val ≤ 126 ∧ c.val ≠ 35 ∧ c.val ≠ 47 ∧ c.val ≠ 63 ∧ c.val ≠ 64 ∧ c.val ≠ 92 ∧ c.val ≠ 124 ∧ c.val ≠ 58 ∧ c.val ≠ 91 := by decide +kernel
theorem badP_out (c : UInt8) (h : badP c = false) (h0 : holdsB 0 c.toNat = false) : (33 ≤ c.toNat ∧ c.toNat ≤ 126 ∧ c ≠ 35 ∧ c ≠ 47 ∧ c ≠ 63 ∧ c ≠ 64 ∧ c ≠ 92 ∧ c ≠ 124) ∧ c ≠ 58 ∧ c ≠ 91 := by
  have := badP_fin ⟨c.toNat, c.toNat_lt⟩ (by simpa using h) h0
  obtain ⟨h1, h2, h3, h4, h5, h6, h7, h8, h9, h10⟩ := this
  exact ⟨⟨h1, h2, ne_toNat c 35 h3 (by omega), ne_toNat c 47 h4 (by omega), ne_toNat c 63 h5 (by omega), ne_toNat c 64 h6 (by omega), ne_toNat c 92 h7 (by omega), ne_toNat c 124 h8 (by omega)⟩, ne_toNat c 58 h9 (by omega), ne_toNat c 91 h10 (by omega)⟩
theorem capP : ∀ k : Fin 16, badP (hexCap k.val) = false ∧ holdsB 0 (hexCap k.val).toNat = false := by decide +kernel
theorem pctP : badP 37 = false ∧ holdsB 0 (37 : UInt8).toNat = false := by decide +kernel
theorem hexL_out : ∀ d : Fin 16, (33 ≤ (hexL d.val).toNat ∧ (hexL d.val).toNat ≤ 126 ∧ hexL d.val ≠ 35 ∧ hexL d.val ≠ 47 ∧ hexL d.val ≠ 63 ∧ hexL d.val ≠ 64 ∧ hexL d.val ≠ 92 ∧ hexL d.val ≠ 124) ∧ hexL d.val ≠ 93 := by decide +kernel
theorem okT_out_fin : ∀ c : Fin 256, okT c.val.toUInt8 = true → 33 ≤ c.val ∧ c.val ≤ 126 ∧ c.val ≠ 35 ∧ c.val ≠ 47 ∧ c.val ≠ 63 ∧ c.val ≠ 64 ∧ c.val ≠ 92 ∧ c.val ≠ 124 ∧ c.val ≠ 58 ∧ c.val ≠ 91 := by decide +kernel
theorem okT_out (c : UInt8) (h : okT c = true) : (33 ≤ c.toNat ∧ c.toNat ≤ 126 ∧ c ≠ 35 ∧ c ≠ 47 ∧ c ≠ 63 ∧ c ≠ 64 ∧ c ≠ 92 ∧ c ≠ 124) ∧ c ≠ 58 ∧ c ≠ 91 := by
  have := okT_out_fin ⟨c.toNat, c.toNat_lt⟩ (by simpa using h)
  obtain ⟨h1, h2, h3, h4, h5, h6, h7, h8, h9, h10⟩ := this
  exact ⟨⟨h1, h2, ne_toNat c 35 h3 (by omega), ne_toNat c 47 h4 (by omega), ne_toNat c 63 h5 (by omega), ne_toNat c 64 h6 (by omega), ne_toNat c 92 h7 (by omega), ne_toNat c 124 h8 (by omega)⟩, ne_toNat c 58 h9 (by omega), ne_toNat c 91 h10 (by omega)⟩

-- an IP4, told
theorem numTxt_dec (n : Nat) (hn : n < 256) : numTxt 2 n = Lib.decDigits n := by
  have h : (256 : Nat) ≤ 10 ^ (31 + 1) := by decide
  exact digs_dec 31 n (Nat.lt_of_lt_of_le hn h)
theorem tell4_dots (n : Nat) (hn : n < 4294967296) : tell4 n = joinDots [numTxt 2 (n / 16777216), numTxt 2 (n / 65536 % 256), numTxt 2 (n / 256 % 256), numTxt 2 (n % 256)] := by
  unfold tell4
  rw [join_D]
  have e0 : byte4 n 0 = n / 16777216 := by unfold byte4; omega
  have e1 : byte4 n 1 = n / 65536 % 256 := by unfold byte4; omega
  have e2 : byte4 n 2 = n / 256 % 256 := by unfold byte4; omega
  have e3 : byte4 n 3 = n % 256 := by unfold byte4; omega
  rw [e0, e1, e2, e3, numTxt_dec _ (by omega), numTxt_dec _ (by omega), numTxt_dec _ (by omega), numTxt_dec _ (by omega)]
theorem tell4_bytes (n : Nat) (hn : n < 4294967296) : tell4 n ≠ [] ∧ ∀ c ∈ tell4 n, c = 46 ∨ okT c = true := by
  rw [tell4_dots n hn]
  refine ⟨joinDots_ne _ (by simp) ?_, fun c hc => ?_⟩
  · intro x hx
    simp only [List.mem_cons, List.not_mem_nil, or_false] at hx
    rcases hx with rfl | rfl | rfl | rfl <;> exact num_ne _ _ (by omega)
  · rcases joinDots_mem _ c hc with h | ⟨x, hx, hcx⟩
    · exact Or.inl h
    · right
      simp only [List.mem_cons, List.not_mem_nil, or_false] at hx
      rcases hx with rfl | rfl | rfl | rfl <;> exact num_ok _ _ (by omega) c hcx
theorem tell4_host (n : Nat) (hn : n < 4294967296) : hostSpecial (unesc (tell4 n)) = some (tell4 n) := by
  conv => lhs; rw [tell4_dots n hn]
  exact four_labels 2 2 2 2 n hn

theorem no91 (l : Bs) (h : ∀ c ∈ l, c ≠ 91) : Lib.hasPrefix l [91] = false := nopfx l h
theorem pfx91 (l : Bs) : Lib.hasPrefix l [91] = true ↔ l.head? = some 91 := by
  cases l with
  | nil => simp [Lib.hasPrefix]
  | cons c l =>
    simp [Lib.hasPrefix, List.isPrefixOf]
    exact ⟨fun h => h.symm, fun h => h.symm⟩

theorem sixTell_bytes (ns : List Nat) (hn : ∀ n ∈ ns, n < 65536) : ∀ c ∈ sixTell ns, c = 58 ∨ ∃ d : Fin 16, c = hexL d.val := by
  have hrow : ∀ ms : List Nat, (∀ n ∈ ms, n < 65536) → ∀ c ∈ tellRow ms, c = 58 ∨ ∃ d : Fin 16, c = hexL d.val := by
    intro ms hm c hc
    rw [tellRow_C] at hc
    rcases joinC_mem _ c hc with h | ⟨x, hx, hcx⟩
    · exact Or.inl h
    · right
      rw [toldRow_fst] at hx
      obtain ⟨n, hn2, rfl⟩ := List.mem_map.1 hx
      obtain ⟨d, hd, rfl⟩ := digs_mem 16 (by omega) 3 n (by have := hm n hn2; omega) c hcx
      exact ⟨⟨d, hd⟩, rfl⟩
  intro c hc
  unfold sixTell at hc
  split at hc
  · exact hrow ns hn c hc
  · rcases List.mem_append.1 hc with hc | hc
    · exact hrow _ (fun n h => hn n (List.mem_of_mem_take h)) c hc
    · rcases List.mem_append.1 hc with hc | hc
      · simp at hc; exact Or.inl hc
      · exact hrow _ (fun n h => hn n (List.mem_of_mem_drop h)) c hc
theorem bracketed_form (l h : Bs) (hb : bracketed l = some h) : ∃ ns : List Nat, ns.length = 8 ∧ (∀ n ∈ ns, n < 65536) ∧ h = sixWant ns := by
  unfold bracketed at hb
  split at hb
  · cases hs : sixOf (Lib.trimSuffix l [93]) with
    | none => rw [hs] at hb; cases hb
    | some ps =>
      rw [hs] at hb
      simp only [Option.some.injEq] at hb
      have hok := sixOf_ok _ ps hs
      refine ⟨ps.map Int.toNat, by simp [hok.1], fun n hn => ?_, hb.symm⟩
      obtain ⟨p, hp, rfl⟩ := List.mem_map.1 hn
      have := hok.2 p hp
      unfold okPiece at this
      omega
  · cases hb

theorem hostTell_cases (t : Bs) (sp : Bool) (h : Bs) (ht : hostTell t sp = some h) :
    (t.head? = some 91 ∧ ∃ ns : List Nat, ns.length = 8 ∧ (∀ n ∈ ns, n < 65536) ∧ h = sixWant ns) ∨ (sp = false ∧ t.any badP = false ∧ h = esc 0 t) ∨
    (sp = true ∧ unesc t ≠ [] ∧ (unesc t).any badS = false ∧ ((∃ n, n < 4294967296 ∧ h = tell4 n) ∨ (numLabel ((labels (Lib.toLowerA (unesc t))).getLastD []) = false ∧ h = Lib.toLowerA (unesc t)))) := by
  unfold hostTell at ht
  split at ht
  · rename_i hp
    exact Or.inl ⟨(pfx91 t).1 hp, bracketed_form _ h ht⟩
  · cases sp with
    | false =>
      right; left
      simp only [Bool.false_eq_true, if_false] at ht
      unfold hostPlain at ht
      split at ht
      · cases ht
      · rename_i hb
        simp only [Option.some.injEq] at ht
        exact ⟨rfl, by simpa using hb, ht.symm⟩
    | true =>
      right; right
      simp only [if_true] at ht
      unfold hostSpecial at ht
      split at ht
      · cases ht
      · rename_i hne
        split at ht
        · cases ht
        · rename_i hb
          refine ⟨rfl, hne, by simpa using hb, ?_⟩
          split at ht
          · left
            cases hi : ip4 (labels (Lib.toLowerA (unesc t))) with
            | none => rw [hi] at ht; cases ht
            | some a =>
              rw [hi] at ht
              simp only [Option.map_some, Option.some.injEq] at ht
              have hr := ip4_range _ a (labels_ne _) hi
              exact ⟨a.toNat, by omega, ht.symm⟩
          · rename_i hnl
            simp only [Option.some.injEq] at ht
            exact Or.inr ⟨by simpa using hnl, ht.symm⟩

theorem not_any (p : UInt8 → Bool) (l : Bs) : l.any p = false ↔ ∀ c ∈ l, p c = false := by
  rw [List.any_eq_false]
  simp

theorem plain_esc (t : Bs) (hb : t.any badP = false) : ∀ c ∈ esc 0 t, badP c = false ∧ holdsB 0 c.toNat = false := by
  intro c hc
  rcases esc_mem 0 t c hc with ⟨h1, h2⟩ | rfl | ⟨k, rfl⟩
  · exact ⟨(not_any _ _).1 hb c h1, h2⟩
  · exact pctP
  · exact capP k
theorem lower_good (x : Bs) (hb : x.any badS = false) : ∀ c ∈ Lib.toLowerA x, badS c = false := by
  intro c hc
  obtain ⟨d, hd, rfl⟩ := List.mem_map.1 hc
  exact (badS_out d ((not_any _ _).1 hb d hd)).2.2.2.2

theorem hostLaws : HostLaws hostTell := by
  refine ⟨?_, ?_, ?_, ?_, by decide +kernel, ?_⟩
  · intro t sp h ht
    rcases hostTell_cases t sp h ht with ⟨_, ns, h8, hn, rfl⟩ | ⟨rfl, hb, rfl⟩ | ⟨rfl, hne, hb, ⟨n, hn, rfl⟩ | ⟨hnl, rfl⟩⟩
    · unfold hostTell
      rw [if_pos (show Lib.hasPrefix (sixWant ns) [91] = true from rfl)]
      exact want_told ns h8 hn
    · have hp := plain_esc t hb
      unfold hostTell
      rw [no91 _ (fun c hc => (badP_out c (hp c hc).1 (hp c hc).2).2.2)]
      simp only [Bool.false_eq_true, if_false]
      unfold hostPlain
      rw [if_neg (by rw [(not_any _ _).2 (fun c hc => (hp c hc).1)]; simp), esc_same 0 _ (fun c hc => (hp c hc).2)]
    · have hbt := tell4_bytes n hn
      have h91 : ∀ c ∈ tell4 n, c ≠ 91 := fun c hc => by
        rcases hbt.2 c hc with rfl | h
        · decide
        · exact (okT_out c h).2.2
      unfold hostTell
      rw [no91 _ h91]
      simp only [Bool.false_eq_true, if_false, if_true]
      exact tell4_host n hn
    · have hg := lower_good _ hb
      unfold hostTell
      rw [no91 _ (fun c hc => (badS_out c (hg c hc)).2.2.1)]
      simp only [Bool.false_eq_true, if_false, if_true]
      rw [unesc_plain _ (fun c hc => (badS_out c (hg c hc)).2.2.2.1)]
      unfold hostSpecial
      rw [if_neg (by unfold Lib.toLowerA; simpa using hne), if_neg (by rw [(not_any _ _).2 hg]; simp), lower_lower, if_neg (by rw [hnl]; simp)]
  · intro t sp h ht
    rcases hostTell_cases t sp h ht with ⟨_, ns, h8, hn, rfl⟩ | ⟨rfl, hb, rfl⟩ | ⟨rfl, hne, hb, ⟨n, hn, rfl⟩ | ⟨hnl, rfl⟩⟩
    · intro c hc
      unfold sixWant at hc
      rcases List.mem_append.1 hc with hc | hc
      · rw [List.mem_singleton] at hc; subst hc; decide
      · rcases List.mem_append.1 hc with hc | hc
        · rcases sixTell_bytes ns hn c hc with rfl | ⟨d, rfl⟩
          · decide
          · exact (hexL_out d).1
        · rw [List.mem_singleton] at hc; subst hc; decide
    · exact fun c hc => (badP_out c (plain_esc t hb c hc).1 (plain_esc t hb c hc).2).1
    · intro c hc
      rcases (tell4_bytes n hn).2 c hc with rfl | h
      · decide
      · exact (okT_out c h).1
    · exact fun c hc => (badS_out c (lower_good _ hb c hc)).1
  · intro t sp h ht
    rcases hostTell_cases t sp h ht with ⟨_, ns, h8, hn, rfl⟩ | ⟨rfl, hb, rfl⟩ | ⟨rfl, hne, hb, ⟨n, hn, rfl⟩ | ⟨hnl, rfl⟩⟩
    · refine Or.inr ⟨sixTell ns, rfl, fun c hc => ?_⟩
      rcases sixTell_bytes ns hn c hc with rfl | ⟨d, rfl⟩
      · decide
      · exact (hexL_out d).2
    · exact Or.inl fun c hc => (badP_out c (plain_esc t hb c hc).1 (plain_esc t hb c hc).2).2
    · left
      intro c hc
      rcases (tell4_bytes n hn).2 c hc with rfl | h
      · decide
      · exact (okT_out c h).2
    · exact Or.inl fun c hc => ⟨(badS_out c (lower_good _ hb c hc)).2.1, (badS_out c (lower_good _ hb c hc)).2.2.1⟩
  · intro t h ht
    rcases hostTell_cases t true h ht with ⟨_, ns, h8, hn, rfl⟩ | ⟨hx, _⟩ | ⟨_, hne, hb, ⟨n, hn, rfl⟩ | ⟨hnl, rfl⟩⟩
    · unfold sixWant; simp
    · cases hx
    · exact (tell4_bytes n hn).1
    · unfold Lib.toLowerA; simpa using hne
  · intro t sp ht
    rcases hostTell_cases t sp [] ht with ⟨_, ns, h8, hn, he⟩ | ⟨rfl, hb, he⟩ | ⟨rfl, hne, hb, ⟨n, hn, he⟩ | ⟨hnl, he⟩⟩
    · unfold sixWant at he; simp at he
    · cases t with
      | nil => rfl
      | cons c t =>
        have := congrArg List.length he
        rw [esc_len] at this
        simp at this
        omega
    · exact absurd he.symm (tell4_bytes n hn).1
    · have := congrArg List.length he
      unfold Lib.toLowerA at this
      simp only [List.length_nil, List.length_map] at this
      exact absurd (List.length_eq_zero_iff.1 this.symm) hne

-- brackets in the wrong place
end Go.Moor
/-
  Plain mathematics: what is told is read as itself, with any base or none, with blanks around it; its parts, put together, are it.
-/
namespace Go.Moor
open Go

theorem again_good {t b s : Bs} (h : parse hostTell t b = .ok s) : ∃ a, Good hostTell a ∧ s = tellAddr a := by
  unfold parse at h
  split at h
  · cases h
  · cases hr : readBeside hostTell t b with
    | error e => rw [hr] at h; cases h
    | ok a =>
      rw [hr] at h
      injection h with h
      exact ⟨a, good_beside hostTell hostLaws t b a hr, h.symm⟩
theorem again_one {a : Adr} (h : Good hostTell a) (hl : (tellAddr a).length ≤ 2000) : parse hostTell (tellAddr a) [] = .ok (tellAddr a) :=
  parse_is hl (by simp) (alone_is (read_good hostTell hostLaws a h none)) rfl
theorem again_two {a : Adr} (h : Good hostTell a) (hl : (tellAddr a).length ≤ 2000) (b : Bs) (hb : b.length ≤ 2000) : parse hostTell (tellAddr a) b = .ok (tellAddr a) ∨ parse hostTell (tellAddr a) b = .error 2 := by
  by_cases hn : b = []
  · left
    rw [hn]
    exact again_one h hl
  · cases hr : readAddr hostTell b none with
    | error e =>
      right
      unfold parse readBeside
      rw [if_neg (by omega), if_neg hn, hr]
    | ok c => exact Or.inl (parse_is hl hb (beside_is hn hr (read_good hostTell hostLaws a h (some c))) rfl)
theorem strip_blank (l : Bs) (h : ∀ c ∈ l, 33 ≤ c.toNat) (hn : l ≠ []) : stripB ([32, 9] ++ l ++ [10, 32]) = l := by
  unfold stripB
  rw [List.append_assoc, trimB_core [32, 9] l [10, 32] (by decide) (by decide) (fun x hx => blank_core x (h x (by
    cases l with
    | nil => cases hx
    | cons y l => simp at hx; subst hx; simp))) (fun x hx => blank_core x (h x (List.mem_of_getLast? hx)))]
  exact filter_core l h
theorem again_three {a : Adr} (h : Good hostTell a) (hl : (tellAddr a).length ≤ 1996) : parse hostTell ([32, 9] ++ tellAddr a ++ [10, 32]) [] = .ok (tellAddr a) := by
  have hb := tell_bytes hostTell hostLaws a h
  have hn : tellAddr a ≠ [] := by unfold tellAddr; simp
  have e : readAddr hostTell ([32, 9] ++ tellAddr a ++ [10, 32]) none = readAddr hostTell (tellAddr a) none := by
    unfold readAddr
    rw [strip_blank _ (fun c hc => (hb c hc).1) hn, strip_same _ (fun c hc => (hb c hc).1)]
  refine parse_is ?_ (by simp) (alone_is (by rw [e]; exact read_good hostTell hostLaws a h none)) rfl
  simp only [List.length_append, List.length_cons, List.length_nil]
  omega
/-- When two slashes stand ahead of a path. -/
def twoAhead (p : Bs) : Bool := decide (1 < p.length) && (p.take 2 == [47, 47])
theorem guard_ahead {a : Adr} (h : Good hostTell a) : guardB a = if a.auth.has = false ∧ twoAhead (tellWay a.way) = true then [47, 46] else [] := by
  unfold guardB
  by_cases hh : a.auth.has = false
  · by_cases ho : a.way.opaq = true
    · obtain ⟨_, h2, _, h4⟩ := h.opaq ho
      rw [if_neg (by rw [h2]; simp), if_neg]
      rintro ⟨_, h5⟩
      unfold twoAhead tellWay at h5
      rw [if_pos ho] at h5
      cases ht : a.way.text with
      | nil => rw [ht] at h5; simp at h5
      | cons c r =>
        rw [ht] at h5 h4
        simp at h5 h4
        exact h4 h5.2.1
    · have e : (1 < a.way.segs.length ∧ a.way.segs.head? = some []) ↔ twoAhead (tellWay a.way) = true := by
        unfold twoAhead tellWay
        rw [if_neg ho]
        have hs := h.seg
        match hsg : a.way.segs with
        | [] => simp [tellSegs]
        | [p] =>
          rw [hsg] at hs
          have h1 := (hs p (by simp)).2
          cases p with
          | nil => simp [tellSegs]
          | cons c p =>
            have := (h1 c (by simp)).2.1
            simp [tellSegs, this]
        | p :: q :: r =>
          rw [hsg] at hs
          have h1 := (hs p (by simp)).2
          cases p with
          | nil => simp [tellSegs]
          | cons c p =>
            have := (h1 c (by simp)).2.1
            simp [tellSegs, this]
      by_cases hg : twoAhead (tellWay a.way) = true
      · rw [if_pos ⟨hh, e.2 hg⟩, if_pos ⟨hh, hg⟩]
      · rw [if_neg (fun x => hg (e.1 x.2)), if_neg (fun x => hg x.2)]
  · rw [if_neg (fun x => hh x.1), if_neg (fun x => hh x.1)]
end Go.Moor
/-
  What works, short and Again of package moorkeep answer.
-/
namespace Go.Proofs
open Go.RowKit Go.Moor

theorem works_parse : parse hostTell [72, 84, 84, 80, 58, 47, 47, 72, 58, 56, 48] [] = .ok [104, 116, 116, 112, 58, 47, 47, 104, 47] := by kernel_rfl
set_option maxHeartbeats 400000 in
theorem Tryz.works_any (w : World) (henv : Tryz.Env2 w) : Calls Tryz.prog 19 #[] w fun e w' => e = .returned (.bool true) ∧ Below w.heap.size w w' := by
  have HT : Hid (Calls Tryz.prog 26 #[.string ⟨#[72, 84, 84, 80, 58, 47, 47, 72, 58, 56, 48]⟩, .string ⟨#[]⟩, .string ⟨#[104, 116, 116, 112, 58, 47, 47, 104, 47]⟩] w fun e w' => e = .returned (.bool true) ∧ Below w.heap.size w w') := Tryz.told_any [72, 84, 84, 80, 58, 47, 47, 72, 58, 56, 48] [] [104, 116, 116, 112, 58, 47, 47, 104, 47] w (by decide) (by decide) henv works_parse
  go_enter Tryz.func19, Tryz.ntmps19
  go_wp2_with fail
  refine HT.out.mono ?_
  rintro e w1 ⟨rfl, b1⟩
  go_wp2_with fail
  go_ret
  exact ⟨rfl, b1⟩
set_option maxHeartbeats 400000 in
theorem Tryz.short_any (x : Bs) (n : Nat) (w : World) (hn : n ≤ 2000) : Calls Tryz.prog 21 #[.string ⟨x.toArray⟩, .int .i64 (n : Int)] w fun e w' => e = .returned (.string ⟨(x.take n).toArray⟩) ∧ w' = w := by
  have hz : (⟨x.toArray⟩ : ByteArray).size = x.length := size_mk x
  by_cases h : n < x.length
  · have HX : Hid ((⟨x.toArray⟩ : ByteArray).extract 0 n = ⟨(x.take n).toArray⟩) := by
      show _ = _
      apply ByteArray.ext
      simp
    have h1 : (n : Int) < ((⟨x.toArray⟩ : ByteArray).size : Int) := by omega
    have h2 : (0 : Int) ≤ (n : Int) := by omega
    have h3 : (n : Int) ≤ ((⟨x.toArray⟩ : ByteArray).size : Int) := by omega
    generalize (⟨x.toArray⟩ : ByteArray) = s at *
    clear hz h
    go_enter Tryz.func21, Tryz.ntmps21
    go_wp2
    go_ret
    rw [HX.out]
    exact ⟨rfl, rfl⟩
  · have HX : Hid (x.take n = x) := List.take_of_length_le (by omega)
    rw [HX.out]
    have h1 : ¬ (n : Int) < ((⟨x.toArray⟩ : ByteArray).size : Int) := by omega
    generalize (⟨x.toArray⟩ : ByteArray) = s at *
    clear hz h
    go_enter Tryz.func21, Tryz.ntmps21
    go_wp2
    go_ret
    exact ⟨rfl, rfl⟩
end Go.Proofs
