/-
  Plain mathematics: whatever is read, beside a good base or none, is good.
-/
import Derived.Test.YtkcnageeamappaaGreatDoorJGSeg
namespace Go.Moor
open Go

theorem cutB_inv (c : UInt8) : ∀ (t : Bs), match cutB c t with | some (a, b) => t = a ++ c :: b ∧ ∀ x ∈ a, x ≠ c | none => ∀ x ∈ t, x ≠ c
  | [] => fun x hx => by cases hx
  | d :: t => by
    have ih := cutB_inv c t
    by_cases hd : d = c
    · rw [cutB, if_pos hd]
      subst hd
      exact ⟨rfl, fun x hx => by cases hx⟩
    · rw [cutB, if_neg hd]
      cases hc : cutB c t with
      | none =>
        rw [hc] at ih
        intro x hx
        rcases List.mem_cons.1 hx with rfl | hx
        · exact hd
        · exact ih x hx
      | some p =>
        obtain ⟨a, b⟩ := p
        rw [hc] at ih
        refine ⟨by rw [ih.1]; rfl, fun x hx => ?_⟩
        rcases List.mem_cons.1 hx with rfl | hx
        · exact hd
        · exact ih.2 x hx
theorem cutOpt_bytes (c : UInt8) (t : Bs) : (∀ x ∈ (cutOpt c t).1, x ∈ t ∧ x ≠ c) ∧ ∀ q, (cutOpt c t).2 = some q → ∀ x ∈ q, x ∈ t := by
  have h := cutB_inv c t
  unfold cutOpt
  cases hc : cutB c t with
  | none => rw [hc] at h; exact ⟨fun x hx => ⟨hx, h x hx⟩, fun q hq => by cases hq⟩
  | some p =>
    obtain ⟨a, b⟩ := p
    rw [hc] at h
    refine ⟨fun x hx => ⟨by rw [h.1]; exact List.mem_append_left _ hx, h.2 x hx⟩, fun q hq x hx => ?_⟩
    simp only [Option.some.injEq] at hq
    subst hq
    rw [h.1]
    simp [hx]
theorem lower_fin : ∀ c : Fin 256, (schemeByte c.val.toUInt8 = true → schemeByte (Lib.lowerB c.val.toUInt8) = true) ∧ (isLetter c.val.toUInt8 = true → isLetter (Lib.lowerB c.val.toUInt8) = true) ∧ Lib.lowerB (Lib.lowerB c.val.toUInt8) = Lib.lowerB c.val.toUInt8 := by decide +kernel
theorem lower_byte (c : UInt8) : (schemeByte c = true → schemeByte (Lib.lowerB c) = true) ∧ (isLetter c = true → isLetter (Lib.lowerB c) = true) ∧ Lib.lowerB (Lib.lowerB c) = Lib.lowerB c := by
  have := lower_fin ⟨c.toNat, c.toNat_lt⟩
  simpa using this
theorem lower_lower (l : Bs) : Lib.toLowerA (Lib.toLowerA l) = Lib.toLowerA l := by
  unfold Lib.toLowerA
  rw [List.map_map]
  exact List.map_congr_left fun c _ => (lower_byte c).2.2
theorem scheme_lower (l : Bs) (h : isSchemeB l = true) : isSchemeB (Lib.toLowerA l) = true := by
  unfold isSchemeB at *
  rw [Bool.and_eq_true] at *
  refine ⟨?_, ?_⟩
  · cases l with
    | nil => exact h.1
    | cons c l => exact (lower_byte c).2.1 h.1
  · rw [List.all_eq_true] at *
    intro x hx
    obtain ⟨c, hc, rfl⟩ := List.mem_map.1 hx
    exact (lower_byte c).1 (h.2 c hc)
theorem cutScheme_good (t : Bs) : (cutScheme t).1 ≠ [] → isSchemeB (cutScheme t).1 = true ∧ Lib.toLowerA (cutScheme t).1 = (cutScheme t).1 := by
  unfold cutScheme
  split
  · split
    · rename_i hs; exact fun _ => ⟨scheme_lower _ hs, lower_lower _⟩
    · exact fun h => absurd rfl h
  · exact fun h => absurd rfl h
theorem cutMarks_good (t : Bs) : ((cutMarks t).scheme ≠ [] → isSchemeB (cutMarks t).scheme = true ∧ Lib.toLowerA (cutMarks t).scheme = (cutMarks t).scheme) ∧ ∀ c ∈ (cutMarks t).middle, c ≠ 35 ∧ c ≠ 63 := by
  refine ⟨cutScheme_good t, fun c hc => ?_⟩
  have h1 := (cutOpt_bytes 63 (cutOpt 35 (cutScheme t).2).1).1 c hc
  exact ⟨((cutOpt_bytes 35 (cutScheme t).2).1 c h1.1).2, h1.2⟩
theorem even_bytes (s t : Bs) : (∀ c ∈ evenSlashes s t, c ∈ t ∨ c = 47) ∧ (special s = true → ∀ c ∈ evenSlashes s t, c ≠ 92) := by
  unfold evenSlashes
  split
  · refine ⟨fun c hc => ?_, fun _ c hc => ?_⟩
    · obtain ⟨b, hb, rfl⟩ := List.mem_map.1 hc
      split
      · exact Or.inr rfl
      · exact Or.inl hb
    · obtain ⟨b, hb, rfl⟩ := List.mem_map.1 hc
      split
      · decide
      · assumption
  · rename_i h
    exact ⟨fun c hc => Or.inl hc, fun h2 => absurd h2 h⟩
theorem cutSlash_mem (t : Bs) : (∀ c ∈ (cutSlash t).2, c ∈ t) ∧ ∀ c ∈ (cutSlash t).1, c ∈ t := by
  unfold cutSlash
  exact ⟨fun c hc => (List.dropWhile_sublist _).subset hc, fun c hc => (List.takeWhile_sublist _).subset hc⟩

section
variable (H : Bs → Bool → Option Bs)

theorem readPort_keep (t s : Bs) (p : Int) (h : readPort t s = some p) : p = -1 ∨ (0 ≤ p ∧ p ≤ 65535 ∧ p ≠ (ownPort s).1) := by
  unfold readPort at h
  split at h
  · simp only [Option.some.injEq] at h; exact Or.inl h.symm
  · split at h
    · rename_i h1
      simp only [Bool.and_eq_true, decide_eq_true_eq] at h1
      split at h
      · simp only [Option.some.injEq] at h; exact Or.inl h.symm
      · rename_i h2
        simp only [Option.some.injEq] at h
        subst h
        exact Or.inr ⟨by omega, by omega, h2⟩
    · cases h

/-- What holds of an authority that was read. -/
structure GoodAuth (s : Bs) (a : Auth) : Prop where
  user : ∀ c ∈ a.user, holdsB 5 c.toNat = false
  pass : ∀ c ∈ a.pass, holdsB 5 c.toNat = false
  has : a.has = true
  host : H a.host (special s) = some a.host
  empty : a.host = [] → a.user = [] ∧ a.pass = [] ∧ a.port = -1
  port : a.port = -1 ∨ (0 ≤ a.port ∧ a.port ≤ 65535 ∧ a.port ≠ (ownPort s).1)

theorem readAuth_keep (hl : HostLaws H) (t s : Bs) (a : Auth) (h : readAuth H t s = .ok a) : GoodAuth H s a := by
  unfold readAuth at h
  simp only at h
  cases hh : tellHost H (cutPort (cutLogin t).2).1 t s with
  | none => rw [hh] at h; cases h
  | some x =>
    rw [hh] at h
    simp only at h
    cases hp : readPort (cutPort (cutLogin t).2).2 s with
    | none => rw [hp] at h; cases h
    | some n =>
      rw [hp] at h
      simp only [Except.ok.injEq] at h
      subst h
      have hx : H (cutPort (cutLogin t).2).1 (special s) = some x ∧ ((cutPort (cutLogin t).2).1 = [] → t = []) := by
        unfold tellHost at hh
        split at hh
        · cases hh
        · rename_i h2
          refine ⟨hh, fun he => ?_⟩
          cases Classical.em (t = []) with
          | inl h => exact h
          | inr h => exact absurd ⟨he, h⟩ h2
      refine ⟨fun c hc => esc_out 5 (by omega) _ c hc, fun c hc => esc_out 5 (by omega) _ c hc, rfl, hl.again _ _ _ hx.1, fun he => ?_, readPort_keep _ s n hp⟩
      have he2 : x = [] := he
      subst he2
      have ht := hx.2 (hl.nil _ _ hx.1)
      subst ht
      refine ⟨rfl, rfl, ?_⟩
      have : readPort (cutPort (cutLogin []).2).2 s = some (-1) := rfl
      rw [this] at hp
      simp only [Option.some.injEq] at hp
      exact hp.symm

theorem fileHost_keep (hl : HostLaws H) (t h : Bs) (hh : fileHost H t = some h) : fileHost H h = some h := by
  unfold fileHost at hh
  split at hh
  · simp only [Option.some.injEq] at hh; subst hh; rfl
  · cases hx : H t true with
    | none => rw [hx] at hh; cases hh
    | some y =>
      rw [hx] at hh
      simp only at hh
      split at hh
      · simp only [Option.some.injEq] at hh; subst hh; rfl
      · rename_i h2
        simp only [Option.some.injEq] at hh
        subst hh
        unfold fileHost
        rw [if_neg (hl.ne _ _ hx), hl.again _ _ _ hx]
        simp only [h2, if_false]

/-- Good, out of an authority that was read. -/
theorem good_auth (s : Bs) (hs : isSchemeB s = true) (hlow : Lib.toLowerA s = s) (hf : s ≠ sFile) (a : Auth) (ha : GoodAuth H s a) (l : List Bs) (hg : GoodSegs s l) (hn : special s = true → l ≠ []) (q f : Option Bs)
    (hq : ∀ x, q = some x → ∀ c ∈ x, holdsB (querySet s) c.toNat = false) (hfr : ∀ x, f = some x → ∀ c ∈ x, holdsB 1 c.toNat = false) : Good H ⟨s, a, ⟨false, [], l⟩, q, f⟩ :=
  ⟨hs, hlow, ha.user, ha.pass, fun h => (by rw [ha.has] at h; cases h), fun _ _ => ha.host, fun h => absurd h hf, ha.empty, fun h => absurd h hf, ha.port, fun h => ⟨ha.has, rfl, hn h⟩, fun h => (by cases h), fun _ => ⟨rfl, fun h => (by rw [ha.has] at h; cases h)⟩, hg.1, fun h => absurd h hf, hq, hfr⟩
/-- Good, of a file. -/
theorem good_file (h : Bs) (hh : fileHost H h = some h) (l : List Bs) (hg : GoodSegs sFile l) (hn : l ≠ []) (q f : Option Bs)
    (hq : ∀ x, q = some x → ∀ c ∈ x, holdsB (querySet sFile) c.toNat = false) (hfr : ∀ x, f = some x → ∀ c ∈ x, holdsB 1 c.toNat = false) : Good H ⟨sFile, fileAuth h, ⟨false, [], l⟩, q, f⟩ :=
  ⟨file_scheme.1, file_scheme.2.1, fun c hc => (by cases hc), fun c hc => (by cases hc), fun h => (by cases h), fun _ h => absurd rfl h, fun _ => hh, fun _ => ⟨rfl, rfl, rfl⟩, fun _ => ⟨rfl, rfl, rfl⟩, Or.inl rfl, fun _ => ⟨rfl, rfl, hn⟩, fun h => (by cases h), fun _ => ⟨rfl, fun h => (by cases h)⟩, hg.1, hg.2, hq, hfr⟩
/-- Good, with another path beside the same authority. -/
theorem good_way (b : Adr) (hb : Good H b) (l : List Bs) (hg : GoodSegs b.scheme l) (hn : l ≠ []) (q f : Option Bs) (hq : ∀ x, q = some x → ∀ c ∈ x, holdsB (querySet b.scheme) c.toNat = false) (hfr : ∀ x, f = some x → ∀ c ∈ x, holdsB 1 c.toNat = false) : Good H ⟨b.scheme, b.auth, ⟨false, [], l⟩, q, f⟩ :=
  ⟨hb.scheme, hb.low, hb.user, hb.pass, hb.bare, hb.host, hb.hostF, hb.empty, hb.file, hb.port, fun h => ⟨(hb.spec h).1, rfl, hn⟩, fun h => (by cases h), fun _ => ⟨rfl, fun _ => hn⟩, hg.1, hg.2, hq, hfr⟩
theorem good_rest (b : Adr) (hb : Good H b) (q f : Option Bs) (hq : ∀ x, q = some x → ∀ c ∈ x, holdsB (querySet b.scheme) c.toNat = false) (hfr : ∀ x, f = some x → ∀ c ∈ x, holdsB 1 c.toNat = false) : Good H ⟨b.scheme, b.auth, b.way, q, f⟩ :=
  ⟨hb.scheme, hb.low, hb.user, hb.pass, hb.bare, hb.host, hb.hostF, hb.empty, hb.file, hb.port, hb.spec, hb.opaq, hb.text, hb.seg, hb.drive, hq, hfr⟩
theorem Good.segs (b : Adr) (hb : Good H b) : GoodSegs b.scheme b.way.segs := ⟨hb.seg, hb.drive⟩

theorem fromAuth_keep (hl : HostLaws H) (s : Bs) (hs : isSchemeB s = true) (hlow : Lib.toLowerA s = s) (hf : s ≠ sFile) (t : Bs) (ht : special s = true → ∀ c ∈ t, c ≠ 92) (a : Auth) (w : Way) (h : fromAuth H s t = .ok (a, w)) (q f : Option Bs)
    (hq : ∀ x, q = some x → ∀ c ∈ x, holdsB (querySet s) c.toNat = false) (hfr : ∀ x, f = some x → ∀ c ∈ x, holdsB 1 c.toNat = false) : Good H ⟨s, a, w, q, f⟩ := by
  unfold fromAuth at h
  simp only at h
  cases hr : readAuth H (cutSlash t).1 s with
  | error e => rw [hr] at h; cases h
  | ok x =>
    rw [hr] at h
    simp only [Except.ok.injEq, Prod.mk.injEq] at h
    obtain ⟨rfl, rfl⟩ := h
    have hk := segs_keep s [] (cutSlash t).2 (goodSegs_nil s) (fun hs c hc => ht hs c ((cutSlash_mem t).1 c hc))
    exact good_auth H s hs hlow hf x (readAuth_keep H hl _ s x hr) _ hk.1 (fun hs => hk.2 (Or.inl hs)) q f hq hfr

theorem goOn_keep (m : Bs) (b : Adr) (hb : Good H b) (hm : special b.scheme = true → ∀ c ∈ m, c ≠ 92) (q f : Option Bs)
    (hq : ∀ x, q = some x → ∀ c ∈ x, holdsB (querySet b.scheme) c.toNat = false) (hfr : ∀ x, f = some x → ∀ c ∈ x, holdsB 1 c.toNat = false) : Good H ⟨b.scheme, b.auth, (goOn b.scheme m q b).1, (goOn b.scheme m q b).2, f⟩ := by
  unfold goOn
  split
  · rename_i hne
    have hk := segs_keep b.scheme (withoutLast b.scheme b.way.segs) m (withoutLast_good _ _ (Good.segs H b hb)) hm
    exact good_way H b hb _ hk.1 (hk.2 (Or.inr hne)) q f hq hfr
  · refine good_rest H b hb _ f ?_ hfr
    split
    · exact hq
    · exact hb.query
theorem driveOf_good (l : List Bs) (h : GoodSegs sFile l) : GoodSegs sFile (driveOf l) := by
  unfold driveOf
  split
  · refine ⟨fun p hp => h.1 p (List.mem_of_mem_take hp), fun hs => ?_⟩
    cases l with
    | nil => exact fun h => by cases h
    | cons x l => exact h.2 hs
  · exact goodSegs_nil _
theorem file_auth (b : Adr) (hb : Good H b) (hs : b.scheme = sFile) : fileAuth b.auth.host = b.auth := by
  obtain ⟨h1, h2, h3⟩ := hb.file hs
  have h4 := (hb.spec (by rw [hs]; decide)).1
  cases ha : b.auth with
  | mk u p h o n => rw [ha] at h1 h2 h3 h4; simp only at h1 h2 h3 h4; subst h1; subst h2; subst h3; subst h4; rfl

theorem readFile_keep (hl : HostLaws H) (m : Bs) (hm : ∀ c ∈ m, c ≠ 92) (base : Option Adr) (hb : ∀ b, base = some b → Good H b ∧ b.scheme = sFile) (q f : Option Bs)
    (hq : ∀ x, q = some x → ∀ c ∈ x, holdsB (querySet sFile) c.toNat = false) (hfr : ∀ x, f = some x → ∀ c ∈ x, holdsB 1 c.toNat = false) (a : Auth) (w : Way) (q2 : Option Bs) (h : readFile H m q base = .ok (a, w, q2)) : Good H ⟨sFile, a, w, q2, f⟩ := by
  have hsp : special sFile = true := by decide
  unfold readFile at h
  simp only at h
  split at h
  · split at h
    · simp only [Except.ok.injEq, Prod.mk.injEq] at h
      obtain ⟨rfl, rfl, rfl⟩ := h
      have hk := segs_keep sFile [] (m.drop 2) (goodSegs_nil _) (fun _ c hc => hm c (List.mem_of_mem_drop hc))
      exact good_file H [] rfl _ hk.1 (hk.2 (Or.inl hsp)) q f hq hfr
    · cases hx : fileHost H (cutSlash (m.drop 2)).1 with
      | none => rw [hx] at h; cases h
      | some x =>
        rw [hx] at h
        simp only [Except.ok.injEq, Prod.mk.injEq] at h
        obtain ⟨rfl, rfl, rfl⟩ := h
        have hk := segs_keep sFile [] (cutSlash (m.drop 2)).2 (goodSegs_nil _) (fun _ c hc => hm c (List.mem_of_mem_drop ((cutSlash_mem _).1 c hc)))
        exact good_file H x (fileHost_keep H hl _ x hx) _ hk.1 (hk.2 (Or.inl hsp)) q f hq hfr
  · cases base with
    | none =>
      simp only [Except.ok.injEq, Prod.mk.injEq] at h
      obtain ⟨rfl, rfl, rfl⟩ := h
      have hk := segs_keep sFile [] m (goodSegs_nil _) (fun _ => hm)
      exact good_file H [] rfl _ hk.1 (hk.2 (Or.inl hsp)) q f hq hfr
    | some b =>
      obtain ⟨hg, hbs⟩ := hb b rfl
      have hgs := Good.segs H b hg
      rw [hbs] at hgs
      simp only at h
      split at h
      · simp only [Except.ok.injEq, Prod.mk.injEq] at h
        obtain ⟨rfl, rfl, rfl⟩ := h
        have hk := segs_keep sFile [] m (goodSegs_nil _) (fun _ => hm)
        exact good_file H _ (hg.hostF hbs) _ hk.1 (hk.2 (Or.inl hsp)) q f hq hfr
      · split at h
        · simp only [Except.ok.injEq, Prod.mk.injEq] at h
          obtain ⟨rfl, rfl, rfl⟩ := h
          have hk := segs_keep sFile (driveOf b.way.segs) m (driveOf_good _ hgs) (fun _ => hm)
          exact good_file H _ (hg.hostF hbs) _ hk.1 (hk.2 (Or.inl hsp)) q f hq hfr
        · simp only [Except.ok.injEq, Prod.mk.injEq] at h
          obtain ⟨rfl, rfl, rfl⟩ := h
          have hk := goOn_keep H m b hg (fun _ => hm) q f (by rw [hbs]; exact hq) hfr
          rw [file_auth H b hg hbs]
          rw [hbs] at hk
          exact hk

theorem head_prefix (m : Bs) (h : ¬ m.head? = some 47) (hm : m ≠ []) : ∃ c r, m = c :: r ∧ c ≠ 47 := by
  cases m with
  | nil => exact absurd rfl hm
  | cons c r => exact ⟨c, r, rfl, fun e => h (by rw [e]; rfl)⟩

theorem readRelative_keep (hl : HostLaws H) (m : Bs) (b : Adr) (hb : Good H b) (hf : b.scheme ≠ sFile) (hm : special b.scheme = true → ∀ c ∈ m, c ≠ 92) (q f : Option Bs)
    (hq : ∀ x, q = some x → ∀ c ∈ x, holdsB (querySet b.scheme) c.toNat = false) (hfr : ∀ x, f = some x → ∀ c ∈ x, holdsB 1 c.toNat = false) (a : Auth) (w : Way) (q2 : Option Bs) (h : readRelative H b.scheme m q b = .ok (a, w, q2)) : Good H ⟨b.scheme, a, w, q2, f⟩ := by
  unfold readRelative at h
  simp only at h
  split at h
  · cases hx : fromAuth H b.scheme (if special b.scheme = true then trimSlashes (m.drop 2) else m.drop 2) with
    | error e => rw [hx] at h; cases h
    | ok p =>
      obtain ⟨x, y⟩ := p
      rw [hx] at h
      simp only [Except.ok.injEq, Prod.mk.injEq] at h
      obtain ⟨rfl, rfl, rfl⟩ := h
      refine fromAuth_keep H hl b.scheme hb.scheme hb.low hf _ (fun hs c hc => hm hs c ?_) x y hx q f hq hfr
      rw [if_pos hs] at hc
      exact List.mem_of_mem_drop ((List.dropWhile_sublist _).subset hc)
  · split at h
    · rename_i h1
      simp only [Except.ok.injEq, Prod.mk.injEq] at h
      obtain ⟨rfl, rfl, rfl⟩ := h
      have hk := segs_keep b.scheme [] m (goodSegs_nil _) hm
      exact good_way H b hb _ hk.1 (hk.2 (Or.inr (fun e => by rw [e] at h1; cases h1))) q f hq hfr
    · simp only [Except.ok.injEq, Prod.mk.injEq] at h
      obtain ⟨rfl, rfl, rfl⟩ := h
      exact goOn_keep H m b hb hm q f hq hfr

theorem escOpaque_bytes (m : Bs) (hm : ∀ c ∈ m, c ≠ 35 ∧ c ≠ 63) : ∀ c ∈ escOpaque m, 33 ≤ c.toNat ∧ c.toNat ≤ 126 ∧ c ≠ 35 ∧ c ≠ 63 := by
  have f0 : ∀ c : Fin 256, holdsB 0 c.val = false → 32 ≤ c.val ∧ c.val ≤ 126 := by decide +kernel
  have fh : ∀ k : Fin 16, 33 ≤ (hexCap k.val).toNat ∧ (hexCap k.val).toNat ≤ 126 ∧ hexCap k.val ≠ 35 ∧ hexCap k.val ≠ 63 := by decide +kernel
  intro c hc
  unfold escOpaque at hc
  obtain ⟨b, hb, hc⟩ := List.mem_flatMap.1 hc
  split at hc
  · simp only [List.mem_cons, List.not_mem_nil, or_false] at hc
    rcases hc with rfl | rfl | rfl <;> decide
  · rename_i h32
    rw [List.mem_singleton] at hc
    subst hc
    rcases esc_mem 0 m c hb with ⟨h1, h2⟩ | rfl | ⟨k, rfl⟩
    · have := f0 ⟨c.toNat, c.toNat_lt⟩ h2
      have hne : c.toNat ≠ 32 := fun e => h32 (of_toNat c 32 e)
      have h32 : 32 ≤ c.toNat := this.1
      exact ⟨by omega, this.2, hm c h1⟩
    · decide
    · exact fh k
theorem escOpaque_head (m : Bs) (h : ¬ m.head? = some 47) : (escOpaque m).head? ≠ some 47 := by
  cases m with
  | nil => intro h; cases h
  | cons c m =>
    have hc : c ≠ 47 := fun e => h (by rw [e]; rfl)
    unfold escOpaque
    cases hb : holdsB 0 c.toNat with
    | true => rw [esc_cons_in 0 c m hb]; simp [List.flatMap_cons]
    | false =>
      rw [esc_cons_out 0 c m hb, List.flatMap_cons]
      split
      · simp
      · simpa using hc

theorem readOther_keep (hl : HostLaws H) (s m : Bs) (hs : isSchemeB s = true) (hlow : Lib.toLowerA s = s) (hsp : special s = false) (hm : ∀ c ∈ m, c ≠ 35 ∧ c ≠ 63) (q f : Option Bs)
    (hq : ∀ x, q = some x → ∀ c ∈ x, holdsB (querySet s) c.toNat = false) (hfr : ∀ x, f = some x → ∀ c ∈ x, holdsB 1 c.toNat = false) (a : Auth) (w : Way) (h : readOther H s m = .ok (a, w)) : Good H ⟨s, a, w, q, f⟩ := by
  have hf : s ≠ sFile := by rintro rfl; exact absurd hsp (by decide)
  unfold readOther at h
  split at h
  · exact fromAuth_keep H hl s hs hlow hf _ (fun h2 => by rw [hsp] at h2; cases h2) a w h q f hq hfr
  · split at h
    · rename_i h1
      simp only [Except.ok.injEq, Prod.mk.injEq] at h
      obtain ⟨rfl, rfl⟩ := h
      have hk := segs_keep s [] m (goodSegs_nil _) (fun h2 => by rw [hsp] at h2; cases h2)
      have hn := hk.2 (Or.inr (fun e => by rw [e] at h1; cases h1))
      exact ⟨hs, hlow, fun c hc => (by cases hc), fun c hc => (by cases hc), fun _ => rfl, fun h => (by cases h), fun h => absurd h hf, fun _ => ⟨rfl, rfl, rfl⟩, fun h => absurd h hf, Or.inl rfl, fun h => (by rw [hsp] at h; cases h), fun h => (by cases h), fun _ => ⟨rfl, fun _ => hn⟩, hk.1.1, fun h => absurd h hf, hq, hfr⟩
    · rename_i h1
      simp only [Except.ok.injEq, Prod.mk.injEq] at h
      obtain ⟨rfl, rfl⟩ := h
      exact ⟨hs, hlow, fun c hc => (by cases hc), fun c hc => (by cases hc), fun _ => rfl, fun h => (by cases h), fun h => absurd h hf, fun _ => ⟨rfl, rfl, rfl⟩, fun h => absurd h hf, Or.inl rfl, fun h => (by rw [hsp] at h; cases h), fun _ => ⟨rfl, rfl, escOpaque_bytes m hm, escOpaque_head m h1⟩, fun h => (by cases h), fun p hp => (by cases hp), fun h => absurd h hf, hq, hfr⟩

theorem readMarked_keep (hl : HostLaws H) (s m : Bs) (hs : isSchemeB s = true) (hlow : Lib.toLowerA s = s) (hm : ∀ c ∈ m, c ≠ 35 ∧ c ≠ 63) (q f : Option Bs) (base : Option Adr) (hb : ∀ b, base = some b → Good H b ∧ b.scheme = s) (a : Adr) (h : readMarked H s m q f base = .ok a) : Good H a := by
  unfold readMarked at h
  have hq : ∀ x, q.map (esc (querySet s)) = some x → ∀ c ∈ x, holdsB (querySet s) c.toNat = false := by
    intro x hx
    cases q with
    | none => cases hx
    | some y =>
      simp only [Option.map_some, Option.some.injEq] at hx
      subst hx
      exact fun c hc => escQ_out s y c hc
  have hfr : ∀ x, f.map (esc 1) = some x → ∀ c ∈ x, holdsB 1 c.toNat = false := by
    intro x hx
    cases f with
    | none => cases hx
    | some y =>
      simp only [Option.map_some, Option.some.injEq] at hx
      subst hx
      exact fun c hc => esc_out 1 (by omega) y c hc
  have hm2 : ∀ c ∈ evenSlashes s m, c ≠ 35 ∧ c ≠ 63 := by
    intro c hc
    rcases (even_bytes s m).1 c hc with h | rfl
    · exact hm c h
    · decide
  have hm3 := (even_bytes s m).2
  cases hr : readMiddle H s (evenSlashes s m) (q.map (esc (querySet s))) base with
  | error e => rw [hr] at h; cases h
  | ok p =>
    obtain ⟨x, y, q2⟩ := p
    rw [hr] at h
    simp only [Except.ok.injEq] at h
    subst h
    unfold readMiddle at hr
    split at hr
    · rename_i hsf
      subst hsf
      exact readFile_keep H hl _ (hm3 (by decide)) base (fun b hx => ⟨(hb b hx).1, (hb b hx).2⟩) _ _ hq hfr x y q2 hr
    · rename_i hsf
      cases base with
      | some b =>
        obtain ⟨hg, rfl⟩ := hb b rfl
        exact readRelative_keep H hl _ b hg hsf hm3 _ _ hq hfr x y q2 hr
      | none =>
        simp only at hr
        split at hr
        · cases hr
        · rename_i a2 w2 hx
          simp only [Except.ok.injEq, Prod.mk.injEq] at hr
          obtain ⟨rfl, rfl, rfl⟩ := hr
          split at hx
          · rename_i hsp
            exact fromAuth_keep H hl s hs hlow hsf _ (fun hs2 c hc => hm3 hs2 c ((List.dropWhile_sublist _).subset hc)) _ _ hx _ _ hq hfr
          · rename_i hsp
            exact readOther_keep H hl s _ hs hlow (by simpa using hsp) hm2 _ _ hq hfr _ _ hx

theorem good_read (hl : HostLaws H) (t : Bs) (base : Option Adr) (hb : ∀ b, base = some b → Good H b) (a : Adr) (h : readAddr H t base = .ok a) : Good H a := by
  unfold readAddr readCuts at h
  have hc := cutMarks_good (stripB t)
  generalize cutMarks (stripB t) = c at *
  split at h
  · rename_i hs
    refine readMarked_keep H hl c.scheme c.middle (hc.1 hs).1 (hc.1 hs).2 hc.2 c.query c.frag _ (fun b hx => ?_) a h
    cases base with
    | none => cases hx
    | some d =>
      have hx : (if d.scheme = c.scheme ∧ special c.scheme = true then some d else none) = some b := hx
      split at hx
      · rename_i h2
        simp only [Option.some.injEq] at hx
        subst hx
        exact ⟨hb d rfl, h2.1⟩
      · cases hx
  · cases base with
    | none => cases h
    | some b =>
      have hg := hb b rfl
      simp only at h
      split at h
      · rename_i ho
        split at h
        · simp only [Except.ok.injEq] at h
          subst h
          refine good_rest H b hg _ _ hg.query ?_
          intro x hx
          cases hf : c.frag with
          | none => rw [hf] at hx; cases hx
          | some y =>
            rw [hf] at hx
            simp only [Option.map_some, Option.some.injEq] at hx
            subst hx
            exact fun d hd => esc_out 1 (by omega) y d hd
        · cases h
      · rename_i ho
        exact readMarked_keep H hl b.scheme c.middle hg.scheme hg.low hc.2 c.query c.frag (some b) (fun d hd => by simp only [Option.some.injEq] at hd; subst hd; exact ⟨hg, rfl⟩) a h

theorem good_beside (hl : HostLaws H) (t base : Bs) (a : Adr) (h : readBeside H t base = .ok a) : Good H a := by
  unfold readBeside at h
  split at h
  · exact good_read H hl t none (fun b hb => by cases hb) a h
  · cases hb : readAddr H base none with
    | error e => rw [hb] at h; cases h
    | ok b =>
      rw [hb] at h
      exact good_read H hl t (some b) (fun d hd => by simp only [Option.some.injEq] at hd; subst hd; exact good_read H hl base none (fun b hb => by cases hb) b hb) a h
end
end Go.Moor
