/-
  Plain mathematics of addresses as they are told: what holds of every address that was read (Good), and that such an address, told, is read as itself, beside whatever base; what hosts are is handed in (H), under the laws HostLaws; no program is named here.
-/
import Derived.Test.YtkcnageeamappabGreatDoorJAWritten2
namespace Go.Moor
open Go

/-- What is asked of hosts. -/
structure HostLaws (H : Bs → Bool → Option Bs) : Prop where
  again : ∀ t sp h, H t sp = some h → H h sp = some h
  bytes : ∀ t sp h, H t sp = some h → ∀ c ∈ h, 33 ≤ c.toNat ∧ c.toNat ≤ 126 ∧ c ≠ 35 ∧ c ≠ 47 ∧ c ≠ 63 ∧ c ≠ 64 ∧ c ≠ 92 ∧ c ≠ 124
  marks : ∀ t sp h, H t sp = some h → (∀ c ∈ h, c ≠ 58 ∧ c ≠ 91) ∨ ∃ x, h = 91 :: (x ++ [93]) ∧ ∀ c ∈ x, c ≠ 93
  ne : ∀ t h, H t true = some h → h ≠ []
  none : H [] false = some []
  nil : ∀ t sp, H t sp = some [] → t = []

def goodSeg (s p : Bs) : Prop := dots p = 0 ∧ ∀ c ∈ p, holdsB 4 c.toNat = false ∧ c ≠ 47 ∧ (special s = true → c ≠ 92)

structure Good (H : Bs → Bool → Option Bs) (a : Adr) : Prop where
  scheme : isSchemeB a.scheme = true
  low : Lib.toLowerA a.scheme = a.scheme
  user : ∀ c ∈ a.auth.user, holdsB 5 c.toNat = false
  pass : ∀ c ∈ a.auth.pass, holdsB 5 c.toNat = false
  bare : a.auth.has = false → a.auth = noAuth
  host : a.auth.has = true → a.scheme ≠ sFile → H a.auth.host (special a.scheme) = some a.auth.host
  hostF : a.scheme = sFile → fileHost H a.auth.host = some a.auth.host
  empty : a.auth.host = [] → a.auth.user = [] ∧ a.auth.pass = [] ∧ a.auth.port = -1
  file : a.scheme = sFile → a.auth.user = [] ∧ a.auth.pass = [] ∧ a.auth.port = -1
  port : a.auth.port = -1 ∨ (0 ≤ a.auth.port ∧ a.auth.port ≤ 65535 ∧ a.auth.port ≠ (ownPort a.scheme).1)
  spec : special a.scheme = true → a.auth.has = true ∧ a.way.opaq = false ∧ a.way.segs ≠ []
  opaq : a.way.opaq = true → a.auth.has = false ∧ a.way.segs = [] ∧ (∀ c ∈ a.way.text, 33 ≤ c.toNat ∧ c.toNat ≤ 126 ∧ c ≠ 35 ∧ c ≠ 63) ∧ a.way.text.head? ≠ some 47
  text : a.way.opaq = false → a.way.text = [] ∧ (a.auth.has = false → a.way.segs ≠ [])
  seg : ∀ p ∈ a.way.segs, goodSeg a.scheme p
  drive : a.scheme = sFile → isDrive (a.way.segs.headD []) = true → toldDrive (a.way.segs.headD []) = true
  query : ∀ q, a.query = some q → ∀ c ∈ q, holdsB (querySet a.scheme) c.toNat = false
  frag : ∀ f, a.frag = some f → ∀ c ∈ f, holdsB 1 c.toNat = false

-- what stands outside a set
theorem out5_fin : ∀ c : Fin 256, holdsB 5 c.val = false → 33 ≤ c.val ∧ c.val ≤ 126 ∧ c.val ≠ 35 ∧ c.val ≠ 47 ∧ c.val ≠ 63 ∧ c.val ≠ 64 ∧ c.val ≠ 58 ∧ c.val ≠ 91 ∧ c.val ≠ 92 := by decide +kernel
theorem out4_fin : ∀ c : Fin 256, holdsB 4 c.val = false → 33 ≤ c.val ∧ c.val ≤ 126 ∧ c.val ≠ 35 ∧ c.val ≠ 63 := by decide +kernel
theorem out3_fin : ∀ c : Fin 256, holdsB 3 c.val = false → 33 ≤ c.val ∧ c.val ≤ 126 ∧ c.val ≠ 35 := by decide +kernel
theorem out2_fin : ∀ c : Fin 256, holdsB 2 c.val = false → 33 ≤ c.val ∧ c.val ≤ 126 ∧ c.val ≠ 35 := by decide +kernel
theorem out1_fin : ∀ c : Fin 256, holdsB 1 c.val = false → 33 ≤ c.val ∧ c.val ≤ 126 := by decide +kernel
theorem ne_toNat (c : UInt8) (k : Nat) (h : c.toNat ≠ k) (hk : k < 256) : c ≠ k.toUInt8 := by
  intro e
  apply h
  rw [e, show k.toUInt8.toNat = k % 256 from rfl]
  omega
theorem out5 (c : UInt8) (h : holdsB 5 c.toNat = false) : 33 ≤ c.toNat ∧ c.toNat ≤ 126 ∧ c ≠ 35 ∧ c ≠ 47 ∧ c ≠ 63 ∧ c ≠ 64 ∧ c ≠ 58 ∧ c ≠ 91 ∧ c ≠ 92 := by
  have := out5_fin ⟨c.toNat, c.toNat_lt⟩ h
  exact ⟨this.1, this.2.1, ne_toNat c 35 this.2.2.1 (by omega), ne_toNat c 47 this.2.2.2.1 (by omega), ne_toNat c 63 this.2.2.2.2.1 (by omega), ne_toNat c 64 this.2.2.2.2.2.1 (by omega), ne_toNat c 58 this.2.2.2.2.2.2.1 (by omega), ne_toNat c 91 this.2.2.2.2.2.2.2.1 (by omega), ne_toNat c 92 this.2.2.2.2.2.2.2.2 (by omega)⟩
theorem out4 (c : UInt8) (h : holdsB 4 c.toNat = false) : 33 ≤ c.toNat ∧ c.toNat ≤ 126 ∧ c ≠ 35 ∧ c ≠ 63 := by
  have := out4_fin ⟨c.toNat, c.toNat_lt⟩ h
  exact ⟨this.1, this.2.1, ne_toNat c 35 this.2.2.1 (by omega), ne_toNat c 63 this.2.2.2 (by omega)⟩
theorem outQ (s : Bs) (c : UInt8) (h : holdsB (querySet s) c.toNat = false) : 33 ≤ c.toNat ∧ c.toNat ≤ 126 ∧ c ≠ 35 := by
  unfold querySet at h
  split at h
  · have := out3_fin ⟨c.toNat, c.toNat_lt⟩ h
    exact ⟨this.1, this.2.1, ne_toNat c 35 this.2.2 (by omega)⟩
  · have := out2_fin ⟨c.toNat, c.toNat_lt⟩ h
    exact ⟨this.1, this.2.1, ne_toNat c 35 this.2.2 (by omega)⟩
theorem out1 (c : UInt8) (h : holdsB 1 c.toNat = false) : 33 ≤ c.toNat ∧ c.toNat ≤ 126 := out1_fin ⟨c.toNat, c.toNat_lt⟩ h

theorem schemeB_fin : ∀ c : Fin 256, schemeByte c.val.toUInt8 = true → 33 ≤ c.val ∧ c.val ≤ 126 ∧ c.val ≠ 58 := by decide +kernel
theorem scheme_byte (c : UInt8) (h : schemeByte c = true) : 33 ≤ c.toNat ∧ c.toNat ≤ 126 ∧ c ≠ 58 := by
  have := schemeB_fin ⟨c.toNat, c.toNat_lt⟩ (by simpa using h)
  exact ⟨this.1, this.2.1, ne_toNat c 58 this.2.2 (by omega)⟩
theorem scheme_bytes (s : Bs) (h : isSchemeB s = true) : s ≠ [] ∧ ∀ c ∈ s, 33 ≤ c.toNat ∧ c.toNat ≤ 126 ∧ c ≠ 58 := by
  unfold isSchemeB at h
  rw [Bool.and_eq_true] at h
  refine ⟨?_, fun c hc => scheme_byte c (List.all_eq_true.1 h.2 c hc)⟩
  rintro rfl
  cases h.1

theorem tellSegs_mem (l : List Bs) (c : UInt8) (h : c ∈ tellSegs l) : c = 47 ∨ ∃ p ∈ l, c ∈ p := by
  unfold tellSegs at h
  obtain ⟨p, hp, hc⟩ := List.mem_flatMap.1 h
  rcases List.mem_cons.1 hc with h | h
  · exact Or.inl h
  · exact Or.inr ⟨p, hp, h⟩
theorem tellSegs_head (l : List Bs) : l = [] ∧ tellSegs l = [] ∨ ∃ r, tellSegs l = 47 :: r := by
  cases l with
  | nil => exact Or.inl ⟨rfl, rfl⟩
  | cons p l => exact Or.inr ⟨p ++ tellSegs l, rfl⟩
theorem cutSlash_segs (x : Bs) (l : List Bs) (h : ∀ c ∈ x, c ≠ 47) : cutSlash (x ++ tellSegs l) = (x, tellSegs l) := by
  rcases tellSegs_head l with ⟨rfl, _⟩ | ⟨r, hr⟩
  · rw [show tellSegs [] = [] from rfl, List.append_nil, cutSlash_none x h]
  · rw [hr, cutSlash_at x r h]

theorem segLoop_good (s : Bs) (r : List Bs) : ∀ (ps segs : List Bs), (∀ p ∈ ps, goodSeg s p) → (s = sFile → segs = [] → isDrive (ps.headD []) = true → toldDrive (ps.headD []) = true) → segLoop s segs (ps ++ r) = segLoop s (segs ++ ps) r
  | [], segs, _, _ => by simp
  | p :: ps, segs, h, hd => by
    have hp := h p (by simp)
    have e : esc 4 p = p := esc_same 4 p fun c hc => (hp.2 c hc).1
    have ht : tellSeg s p segs.isEmpty = p := by
      unfold tellSeg
      split
      · rename_i hx
        simp only [Bool.and_eq_true, decide_eq_true_eq, List.isEmpty_iff] at hx
        have := hd hx.1.2 hx.1.1 hx.2
        match p, hx.2, this with
        | [a, b], _, h2 =>
          simp [toldDrive] at h2
          simp [h2.2]
      · exact e
    show segLoop s segs (p :: (ps ++ r)) = _
    rw [segLoop, if_pos hp.1, ht, segLoop_good s r ps (segs ++ [p]) (fun q hq => h q (by simp [hq])) (fun _ h2 => by simp at h2)]
    simp
theorem segs_good (s : Bs) (l : List Bs) (hg : ∀ p ∈ l, goodSeg s p) (hd : s = sFile → isDrive (l.headD []) = true → toldDrive (l.headD []) = true) (hs : special s = true → l ≠ []) : readWay s [] (tellSegs l) = ⟨false, [], l⟩ := by
  cases l with
  | nil =>
    cases hsp : special s with
    | true => exact absurd rfl (hs hsp)
    | false =>
      unfold readWay readSegs
      rw [if_pos ⟨rfl, hsp⟩]
  | cons p l =>
    show readWay s [] (47 :: (p ++ tellSegs l)) = _
    rw [segs_way s p l [] (fun c hc => ((hg p (by simp)).2 c hc).2.1) (fun q hq c hc => ((hg q (by simp [hq])).2 c hc).2.1)]
    have := segLoop_good s [] (p :: l) [] hg (fun h _ => hd h)
    rw [List.append_nil, List.nil_append] at this
    rw [this]
    rfl

section
variable (H : Bs → Bool → Option Bs)

/-- A host and a port, cut. -/
theorem cutPort_none (h : Bs) (hm : (∀ c ∈ h, c ≠ 58 ∧ c ≠ 91) ∨ ∃ x, h = 91 :: (x ++ [93]) ∧ ∀ c ∈ x, c ≠ 93) : cutPort h = (h, []) := by
  rcases hm with hm | ⟨x, rfl, hx⟩
  · have e2 : brackets h = 0 := by
      unfold brackets
      rw [if_neg]
      cases h with
      | nil => simp
      | cons c r => have := (hm c (by simp)).2; simpa using this
    unfold cutPort
    rw [e2]
    show (match cutB 58 h with | some (a, b) => ([] ++ a, b) | none => (h, [])) = _
    rw [cutB_none 58 h (fun c hc => (hm c hc).1)]
  · have e2 : brackets (91 :: (x ++ [93])) = x.length + 2 := by
      unfold brackets
      rw [if_pos (by rfl), show (91 :: (x ++ [93]) : Bs) = (91 :: x) ++ 93 :: [] from rfl, cutB_some 93 [] (91 :: x) (by simpa using hx)]
      simp
    unfold cutPort
    rw [e2, show List.drop (x.length + 2) (91 :: (x ++ [93])) = [] from by simp]
    rfl
theorem cutPort_some (h p : Bs) (hm : (∀ c ∈ h, c ≠ 58 ∧ c ≠ 91) ∨ ∃ x, h = 91 :: (x ++ [93]) ∧ ∀ c ∈ x, c ≠ 93) : cutPort (h ++ 58 :: p) = (h, p) := by
  rcases hm with hm | ⟨x, rfl, hx⟩
  · have e2 : brackets (h ++ 58 :: p) = 0 := by
      unfold brackets
      rw [if_neg]
      cases h with
      | nil => simp
      | cons c r => have := (hm c (by simp)).2; simpa using this
    unfold cutPort
    rw [e2]
    show (match cutB 58 (h ++ 58 :: p) with | some (a, b) => ([] ++ a, b) | none => (_, [])) = _
    rw [cutB_some 58 p h (fun c hc => (hm c hc).1)]
    rfl
  · have e2 : brackets (91 :: (x ++ [93]) ++ 58 :: p) = x.length + 2 := by
      unfold brackets
      rw [if_pos (by rfl), show (91 :: (x ++ [93]) ++ 58 :: p : Bs) = (91 :: x) ++ 93 :: (58 :: p) from by simp, cutB_some 93 _ (91 :: x) (by simpa using hx)]
      simp
    unfold cutPort
    rw [e2, show List.drop (x.length + 2) (91 :: (x ++ [93]) ++ 58 :: p) = 58 :: p from by simp, show List.take (x.length + 2) (91 :: (x ++ [93]) ++ 58 :: p) = 91 :: (x ++ [93]) from by rw [show x.length + 2 = (91 :: (x ++ [93]) : Bs).length from by simp, List.take_left]]
    simp [cutB]

theorem noAt (t : Bs) (h : ∀ c ∈ t, c ≠ 64) : cutLogin t = ([], t) := by
  unfold cutLogin cutLast
  rw [cutB_none 64 t.reverse (fun c hc => h c (by simpa using hc))]
  rfl
theorem withAt (l t : Bs) (h : ∀ c ∈ t, c ≠ 64) : cutLogin (l ++ 64 :: t) = (l, t) := by
  unfold cutLogin
  rw [cutLast_some 64 l t h]

theorem readPort_told (s : Bs) (p : Int) (h : 0 ≤ p ∧ p ≤ 65535 ∧ p ≠ (ownPort s).1) : readPort (decB p) s = some p := by
  obtain ⟨k, rfl⟩ := Int.eq_ofNat_of_zero_le h.1
  have hd := dec_all k
  have := port_good s (Lib.decDigits k) k hd.2.2 hd.1 hd.2.1 (by omega)
  show readPort (Lib.decDigits k) s = _
  rw [this]
  unfold toldPort
  rw [if_neg h.2.2]

theorem decB_bytes (p : Int) (c : UInt8) (h : c ∈ decB p) : isDigit c = true := (dec_all p.toNat).1 c h

/-- What is told of an authority. -/
theorem auth_good (a : Auth) (s : Bs) (hl : HostLaws H) (hu : ∀ c ∈ a.user, holdsB 5 c.toNat = false) (hp : ∀ c ∈ a.pass, holdsB 5 c.toNat = false) (hh : H a.host (special s) = some a.host)
    (he : a.host = [] → a.user = [] ∧ a.pass = [] ∧ a.port = -1) (hpt : a.port = -1 ∨ (0 ≤ a.port ∧ a.port ≤ 65535 ∧ a.port ≠ (ownPort s).1)) (ha : a.has = true) :
    readAuth H (tellLogin a ++ tellPlace a) s = .ok a ∧ ∀ c ∈ tellLogin a ++ tellPlace a, 33 ≤ c.toNat ∧ c.toNat ≤ 126 ∧ c ≠ 35 ∧ c ≠ 63 ∧ c ≠ 47 ∧ c ≠ 92 := by
  have hb := hl.bytes _ _ _ hh
  have hm := hl.marks _ _ _ hh
  have hplace : (∀ c ∈ tellPlace a, 33 ≤ c.toNat ∧ c.toNat ≤ 126 ∧ c ≠ 35 ∧ c ≠ 63 ∧ c ≠ 47 ∧ c ≠ 92 ∧ c ≠ 64) ∧ (cutPort (tellPlace a)).1 = a.host ∧ readPort (cutPort (tellPlace a)).2 s = some a.port := by
    unfold tellPlace
    split
    · rename_i h1
      refine ⟨fun c hc => ?_, ?_, ?_⟩
      · have := hb c hc; exact ⟨this.1, this.2.1, this.2.2.1, this.2.2.2.2.1, this.2.2.2.1, this.2.2.2.2.2.2.1, this.2.2.2.2.2.1⟩
      · rw [cutPort_none _ hm]
      · rw [cutPort_none _ hm, h1]; rfl
    · rename_i h1
      have hpt2 := hpt.resolve_left h1
      refine ⟨fun c hc => ?_, ?_, ?_⟩
      · rcases List.mem_append.1 hc with hc | hc
        · have := hb c hc; exact ⟨this.1, this.2.1, this.2.2.1, this.2.2.2.2.1, this.2.2.2.1, this.2.2.2.2.2.2.1, this.2.2.2.2.2.1⟩
        · rcases List.mem_cons.1 hc with rfl | hc
          · decide
          · have hd := decB_bytes _ c hc
            have h2 := digit_calm c hd
            have h3 : c.toNat ≤ 126 := by
              simp [isDigit] at hd; omega
            exact ⟨h2.1.1, h3, h2.1.2.1, h2.1.2.2.1, h2.2.1, h2.1.2.2.2, h2.2.2⟩
      · rw [cutPort_some _ _ hm]
      · rw [cutPort_some _ _ hm]; exact readPort_told s _ hpt2
  obtain ⟨hpb, hp1, hp2⟩ := hplace
  have hlog : (∀ c ∈ tellLogin a, 33 ≤ c.toNat ∧ c.toNat ≤ 126 ∧ c ≠ 35 ∧ c ≠ 63 ∧ c ≠ 47 ∧ c ≠ 92) ∧ (cutLogin (tellLogin a ++ tellPlace a)).2 = tellPlace a ∧ (cutOpt 58 (cutLogin (tellLogin a ++ tellPlace a)).1).1 = a.user ∧ (cutOpt 58 (cutLogin (tellLogin a ++ tellPlace a)).1).2.getD [] = a.pass := by
    have b64 : ∀ c ∈ tellPlace a, c ≠ 64 := fun c hc => (hpb c hc).2.2.2.2.2.2
    have hub : ∀ c ∈ a.user, 33 ≤ c.toNat ∧ c.toNat ≤ 126 ∧ c ≠ 35 ∧ c ≠ 63 ∧ c ≠ 47 ∧ c ≠ 92 := fun c hc => by have := out5 c (hu c hc); exact ⟨this.1, this.2.1, this.2.2.1, this.2.2.2.2.1, this.2.2.2.1, this.2.2.2.2.2.2.2.2⟩
    have hqb : ∀ c ∈ a.pass, 33 ≤ c.toNat ∧ c.toNat ≤ 126 ∧ c ≠ 35 ∧ c ≠ 63 ∧ c ≠ 47 ∧ c ≠ 92 := fun c hc => by have := out5 c (hp c hc); exact ⟨this.1, this.2.1, this.2.2.1, this.2.2.2.2.1, this.2.2.2.1, this.2.2.2.2.2.2.2.2⟩
    have hu58 : ∀ c ∈ a.user, c ≠ 58 := fun c hc => (out5 c (hu c hc)).2.2.2.2.2.2.1
    unfold tellLogin
    split
    · rw [show (a.user ++ 58 :: (a.pass ++ [64]) ++ tellPlace a : Bs) = (a.user ++ 58 :: a.pass) ++ 64 :: tellPlace a from by simp, withAt _ _ b64, cutOpt_some 58 _ _ hu58]
      refine ⟨fun c hc => ?_, rfl, rfl, rfl⟩
      rcases List.mem_append.1 hc with hc | hc
      · exact hub c hc
      · rcases List.mem_cons.1 hc with rfl | hc
        · decide
        · rcases List.mem_append.1 hc with hc | hc
          · exact hqb c hc
          · rw [List.mem_singleton] at hc; subst hc; decide
    · rename_i h1
      have h1 : a.pass = [] := Decidable.not_not.1 h1
      split
      · rw [show (a.user ++ [64] ++ tellPlace a : Bs) = a.user ++ 64 :: tellPlace a from by simp, withAt _ _ b64, cutOpt_none 58 _ hu58, h1]
        refine ⟨fun c hc => ?_, rfl, rfl, rfl⟩
        rcases List.mem_append.1 hc with hc | hc
        · exact hub c hc
        · rw [List.mem_singleton] at hc; subst hc; decide
      · rename_i h2
        have h2 : a.user = [] := Decidable.not_not.1 h2
        rw [List.nil_append, noAt _ b64, h1, h2]
        exact ⟨fun c hc => (by cases hc), rfl, rfl, rfl⟩
  obtain ⟨hlb, hl1, hl2, hl3⟩ := hlog
  refine ⟨?_, fun c hc => ?_⟩
  · unfold readAuth
    simp only [hl1, hl2, hl3, hp1, hp2]
    have : tellHost H a.host (tellLogin a ++ tellPlace a) s = some a.host := by
      unfold tellHost
      by_cases hn : a.host = []
      · obtain ⟨x1, x2, x3⟩ := he hn
        rw [if_neg]
        · exact hh
        · rintro ⟨_, h2⟩
          apply h2
          unfold tellLogin tellPlace
          rw [x1, x2, x3, hn]
          rfl
      · rw [if_neg (fun x => hn x.1)]; exact hh
    rw [this]
    show Except.ok (⟨esc 5 a.user, esc 5 a.pass, true, a.host, a.port⟩ : Auth) = _
    rw [esc_same 5 a.user hu, esc_same 5 a.pass hp]
    cases a
    simp only at ha
    subst ha
    rfl
  · rcases List.mem_append.1 hc with hc | hc
    · exact hlb c hc
    · have := hpb c hc; exact ⟨this.1, this.2.1, this.2.2.1, this.2.2.2.1, this.2.2.2.2.1, this.2.2.2.2.2.1⟩
end
end Go.Moor
/-
  Plain mathematics: a good address, told, is read as itself, beside whatever base; its bytes; how its parts tell it.
-/
namespace Go.Moor
open Go

section
variable (H : Bs → Bool → Option Bs)

/-- What stands between the scheme and the query. -/
def tellMid (a : Adr) : Bs := tellAuth a.auth ++ (guardB a ++ tellWay a.way)
theorem tell_mid (a : Adr) : tellAddr a = a.scheme ++ 58 :: (tellMid a ++ (tellOpt 63 a.query ++ tellOpt 35 a.frag)) := by
  unfold tellAddr tellMid
  simp only [List.append_assoc]

theorem fileHost_laws (hl : HostLaws H) (h : Bs) (hh : fileHost H h = some h) : isDrive h = false ∧ ∀ c ∈ h, 33 ≤ c.toNat ∧ c.toNat ≤ 126 ∧ c ≠ 35 ∧ c ≠ 63 ∧ c ≠ 47 ∧ c ≠ 92 := by
  unfold fileHost at hh
  split at hh
  · rename_i h1; subst h1; exact ⟨rfl, fun c hc => by cases hc⟩
  · cases hx : H h true with
    | none => rw [hx] at hh; cases hh
    | some y =>
      rw [hx] at hh
      simp only at hh
      split at hh
      · rename_i h1 _
        injection hh with hh
        exact absurd hh.symm h1
      · injection hh with hh
        subst hh
        refine ⟨?_, fun c hc => ?_⟩
        · have hb := hl.bytes _ _ _ hx
          have hm := hl.marks _ _ _ hx
          cases hd : isDrive y with
          | false => rfl
          | true =>
            match y, hd with
            | [p, q], hd =>
              simp [isDrive] at hd
              rcases hm with hm | ⟨x, he, _⟩
              · have h1 := (hm q (by simp)).1
                have h2 := (hb q (by simp)).2.2.2.2.2.2.2
                rcases hd.2 with h | h
                · exact absurd h h1
                · exact absurd h h2
              · injection he with he1 _
                subst he1
                exact absurd hd.1 (by decide)
        · have := hl.bytes _ _ _ hx c hc
          exact ⟨this.1, this.2.1, this.2.2.1, this.2.2.2.2.1, this.2.2.2.1, this.2.2.2.2.2.2.1⟩

theorem file_special : special sFile = true := by decide
theorem Good.ne (a : Adr) (h : Good H a) : a.scheme ≠ [] := (scheme_bytes a.scheme h.scheme).1

/-- The bytes of the segments, told. -/
theorem way_bytes (a : Adr) (h : Good H a) : ∀ c ∈ tellWay a.way, 33 ≤ c.toNat ∧ c.toNat ≤ 126 ∧ c ≠ 35 ∧ c ≠ 63 ∧ (special a.scheme = true → c ≠ 92) := by
  intro c hc
  unfold tellWay at hc
  split at hc
  · rename_i ho
    have := (h.opaq ho).2.2.1 c hc
    refine ⟨this.1, this.2.1, this.2.2.1, this.2.2.2, fun hs => ?_⟩
    have h2 := (h.spec hs).2.1
    rw [ho] at h2
    cases h2
  · rcases tellSegs_mem _ c hc with rfl | ⟨p, hp, hcp⟩
    · exact ⟨by decide, by decide, by decide, by decide, fun _ => by decide⟩
    · have h1 := (h.seg p hp).2 c hcp
      have h2 := out4 c h1.1
      exact ⟨h2.1, h2.2.1, h2.2.2.1, h2.2.2.2, h1.2.2⟩
theorem guard_bytes (a : Adr) : ∀ c ∈ guardB a, 33 ≤ c.toNat ∧ c.toNat ≤ 126 ∧ c ≠ 35 ∧ c ≠ 63 ∧ c ≠ 92 := by
  intro c hc
  unfold guardB at hc
  split at hc
  · simp only [List.mem_cons, List.not_mem_nil, or_false] at hc
    rcases hc with rfl | rfl <;> decide
  · cases hc
theorem host_any (hl : HostLaws H) (a : Adr) (h : Good H a) (hh : a.auth.has = true) (hf : a.scheme ≠ sFile) : readAuth H (tellLogin a.auth ++ tellPlace a.auth) a.scheme = .ok a.auth ∧ ∀ c ∈ tellLogin a.auth ++ tellPlace a.auth, 33 ≤ c.toNat ∧ c.toNat ≤ 126 ∧ c ≠ 35 ∧ c ≠ 63 ∧ c ≠ 47 ∧ c ≠ 92 := auth_good H a.auth a.scheme hl h.user h.pass (h.host hh hf) h.empty h.port hh
theorem auth_bytes (hl : HostLaws H) (a : Adr) (h : Good H a) : ∀ c ∈ tellAuth a.auth, 33 ≤ c.toNat ∧ c.toNat ≤ 126 ∧ c ≠ 35 ∧ c ≠ 63 ∧ c ≠ 92 := by
  intro c hc
  unfold tellAuth at hc
  split at hc
  · rename_i hh
    rcases List.mem_cons.1 hc with rfl | hc
    · decide
    rcases List.mem_cons.1 hc with rfl | hc
    · decide
    by_cases hf : a.scheme = sFile
    · obtain ⟨h1, h2, h3⟩ := h.file hf
      have e : tellLogin a.auth ++ tellPlace a.auth = a.auth.host := by
        unfold tellLogin tellPlace
        rw [h1, h2, h3]
        rfl
      rw [e] at hc
      have := (fileHost_laws H hl _ (h.hostF hf)).2 c hc
      exact ⟨this.1, this.2.1, this.2.2.1, this.2.2.2.1, this.2.2.2.2.2⟩
    · have := (host_any H hl a h hh hf).2 c hc
      exact ⟨this.1, this.2.1, this.2.2.1, this.2.2.2.1, this.2.2.2.2.2⟩
  · cases hc
theorem mid_bytes (hl : HostLaws H) (a : Adr) (h : Good H a) : ∀ c ∈ tellMid a, 33 ≤ c.toNat ∧ c.toNat ≤ 126 ∧ c ≠ 35 ∧ c ≠ 63 ∧ (special a.scheme = true → c ≠ 92) := by
  intro c hc
  unfold tellMid at hc
  rcases List.mem_append.1 hc with hc | hc
  · have := auth_bytes H hl a h c hc
    exact ⟨this.1, this.2.1, this.2.2.1, this.2.2.2.1, fun _ => this.2.2.2.2⟩
  rcases List.mem_append.1 hc with hc | hc
  · have := guard_bytes a c hc
    exact ⟨this.1, this.2.1, this.2.2.1, this.2.2.2.1, fun _ => this.2.2.2.2⟩
  · exact way_bytes H a h c hc
theorem tell_bytes (hl : HostLaws H) (a : Adr) (h : Good H a) : ∀ c ∈ tellAddr a, 33 ≤ c.toNat ∧ c.toNat ≤ 126 := by
  intro c hc
  rw [tell_mid] at hc
  rcases List.mem_append.1 hc with hc | hc
  · have := (scheme_bytes a.scheme h.scheme).2 c hc
    exact ⟨this.1, this.2.1⟩
  rcases List.mem_cons.1 hc with rfl | hc
  · decide
  rcases List.mem_append.1 hc with hc | hc
  · have := mid_bytes H hl a h c hc
    exact ⟨this.1, this.2.1⟩
  rcases List.mem_append.1 hc with hc | hc
  · cases hq : a.query with
    | none => rw [hq] at hc; cases hc
    | some q =>
      rw [hq] at hc
      rcases List.mem_cons.1 hc with rfl | hc
      · decide
      · have := outQ a.scheme c (h.query q hq c hc)
        exact ⟨this.1, this.2.1⟩
  · cases hq : a.frag with
    | none => rw [hq] at hc; cases hc
    | some q =>
      rw [hq] at hc
      rcases List.mem_cons.1 hc with rfl | hc
      · decide
      · exact out1 c (h.frag q hq c hc)

/-- A text is cut as the address was told. -/
theorem cut_told (hl : HostLaws H) (a : Adr) (h : Good H a) : cutMarks (stripB (tellAddr a)) = ⟨a.scheme, tellMid a, a.query, a.frag⟩ := by
  rw [strip_same _ (fun c hc => (tell_bytes H hl a h c hc).1), tell_mid]
  exact cutMarks_named a.scheme (tellMid a) a.query a.frag h.scheme h.low (fun c hc => ((scheme_bytes a.scheme h.scheme).2 c hc).2.2) (fun c hc => by have := mid_bytes H hl a h c hc; exact ⟨this.2.2.1, this.2.2.2.1⟩) (fun x hx c hc => (outQ a.scheme c (h.query x hx c hc)).2.2)

theorem opt_same (s : Int) (o : Option Bs) (h : ∀ q, o = some q → ∀ c ∈ q, holdsB s c.toNat = false) : o.map (esc s) = o := by
  cases o with
  | none => rfl
  | some q => show some (esc s q) = some q; rw [esc_same s q (h q rfl)]

theorem way_told (a : Adr) (h : Good H a) (ho : a.way.opaq = false) : readWay a.scheme [] (tellSegs a.way.segs) = a.way := by
  rw [segs_good a.scheme a.way.segs h.seg h.drive (fun hs => (h.spec hs).2.2)]
  have := (h.text ho).1
  cases hw : a.way with
  | mk o t s => rw [hw] at ho this; simp only at ho this; subst ho; subst this; rfl

theorem from_told (hl : HostLaws H) (a : Adr) (h : Good H a) (hh : a.auth.has = true) (hf : a.scheme ≠ sFile) : fromAuth H a.scheme (tellLogin a.auth ++ tellPlace a.auth ++ tellWay a.way) = .ok (a.auth, a.way) := by
  have ho : a.way.opaq = false := by
    cases ho : a.way.opaq with
    | false => rfl
    | true => have := (h.opaq ho).1; rw [hh] at this; cases this
  have hg := host_any H hl a h hh hf
  have e : tellWay a.way = tellSegs a.way.segs := by unfold tellWay; rw [ho]; rfl
  unfold fromAuth
  rw [e, cutSlash_segs _ _ (fun c hc => (hg.2 c hc).2.2.2.2.1)]
  simp only [hg.1, way_told H a h ho]

theorem mid_has (a : Adr) (hh : a.auth.has = true) : tellMid a = 47 :: 47 :: (tellLogin a.auth ++ tellPlace a.auth ++ tellWay a.way) := by
  unfold tellMid tellAuth guardB
  rw [if_pos hh, if_neg (by simp [hh])]
  simp

theorem place_head (hl : HostLaws H) (a : Adr) (h : Good H a) (hs : special a.scheme = true) (hf : a.scheme ≠ sFile) : (tellLogin a.auth ++ tellPlace a.auth ++ tellWay a.way).head? ≠ some 47 := by
  have hh := (h.spec hs).1
  have hg := (host_any H hl a h hh hf).2
  have hn : a.auth.host ≠ [] := hl.ne _ _ (by have := h.host hh hf; rw [hs] at this; exact this)
  have hne : tellLogin a.auth ++ tellPlace a.auth ≠ [] := by
    intro e
    have := (List.append_eq_nil_iff.1 e).2
    unfold tellPlace at this
    split at this
    · exact hn this
    · exact hn (List.append_eq_nil_iff.1 this).1
  cases hx : tellLogin a.auth ++ tellPlace a.auth with
  | nil => exact absurd hx hne
  | cons c r =>
    rw [hx] at hg
    have := (hg c (by simp)).2.2.2.2.1
    simpa using this

theorem middle_told (hl : HostLaws H) (a : Adr) (h : Good H a) (base : Option Adr) (hb : special a.scheme = false → base = none) : readMiddle H a.scheme (tellMid a) a.query base = .ok (a.auth, a.way, a.query) := by
  unfold readMiddle
  by_cases hf : a.scheme = sFile
  · rw [if_pos hf]
    have hs : special a.scheme = true := by rw [hf]; decide
    obtain ⟨hh, ho, hne⟩ := h.spec hs
    obtain ⟨h1, h2, h3⟩ := h.file hf
    have e : tellLogin a.auth ++ tellPlace a.auth = a.auth.host := by
      unfold tellLogin tellPlace
      rw [h1, h2, h3]
      rfl
    have ha : a.auth = fileAuth a.auth.host := by
      cases ha : a.auth with
      | mk u p hs ho po => rw [ha] at h1 h2 h3 hh; simp only at h1 h2 h3 hh; subst h1; subst h2; subst h3; subst hh; rfl
    have hlaw := fileHost_laws H hl _ (h.hostF hf)
    have ew : tellWay a.way = tellSegs a.way.segs := by unfold tellWay; rw [ho]; rfl
    rw [mid_has a hh, e, ew]
    unfold readFile
    rw [if_pos (by rfl)]
    show (if isDrive (cutSlash (a.auth.host ++ tellSegs a.way.segs)).1 = true then (.ok (fileAuth [], readWay sFile [] (a.auth.host ++ tellSegs a.way.segs), a.query) : Except Int (Auth × Way × Option Bs)) else match fileHost H (cutSlash (a.auth.host ++ tellSegs a.way.segs)).1 with | none => (.error 4 : Except Int (Auth × Way × Option Bs)) | some h => (.ok (fileAuth h, readWay sFile [] (cutSlash (a.auth.host ++ tellSegs a.way.segs)).2, a.query) : Except Int (Auth × Way × Option Bs))) = _
    rw [cutSlash_segs _ _ (fun c hc => (hlaw.2 c hc).2.2.2.2.1)]
    simp only [hlaw.1, h.hostF hf]
    have hw := way_told H a h ho
    rw [hf] at hw
    rw [hw, ← ha]
    simp
  · rw [if_neg hf]
    cases hs : special a.scheme with
    | true =>
      have hh := (h.spec hs).1
      have hft := from_told H hl a h hh hf
      have hhd := place_head H hl a h hs hf
      rw [mid_has a hh]
      cases base with
      | none =>
        simp only [if_true, trim_two _ hhd, hft]
      | some b =>
        show readRelative H a.scheme _ a.query b = _
        unfold readRelative
        rw [if_pos (by rfl), if_pos hs]
        show (match fromAuth H a.scheme (trimSlashes (tellLogin a.auth ++ tellPlace a.auth ++ tellWay a.way)) with | .error e => (.error e : Except Int (Auth × Way × Option Bs)) | .ok (x, w) => (.ok (x, w, a.query) : Except Int (Auth × Way × Option Bs))) = _
        rw [noSlash_trim _ hhd, hft]
    | false =>
      rw [hb hs]
      have : readOther H a.scheme (tellMid a) = .ok (a.auth, a.way) := by
        cases hh : a.auth.has with
        | true =>
          rw [mid_has a hh]
          unfold readOther
          rw [if_pos (by rfl)]
          exact from_told H hl a h hh hf
        | false =>
          have hb := h.bare hh
          have ea : tellAuth a.auth = [] := by rw [hb]; rfl
          cases ho : a.way.opaq with
          | true =>
            obtain ⟨_, hsg, htb, hth⟩ := h.opaq ho
            have eg : guardB a = [] := by unfold guardB; rw [if_neg]; rintro ⟨_, h2, _⟩; rw [hsg] at h2; simp at h2
            have et : tellWay a.way = a.way.text := by unfold tellWay; rw [ho]; rfl
            have em : tellMid a = a.way.text := by unfold tellMid; rw [ea, eg, et]; rfl
            have he : escOpaque a.way.text = a.way.text := by
              unfold escOpaque
              rw [esc_same 0 a.way.text (fun c hc => ctl_out ⟨c.toNat, c.toNat_lt⟩ (htb c hc).1 (htb c hc).2.1)]
              have : ∀ l : Bs, (∀ c ∈ l, 33 ≤ c.toNat) → l.flatMap (fun c => if c = 32 then [37, 50, 48] else [c]) = l := by
                intro l
                induction l with
                | nil => intro _; rfl
                | cons c l ih =>
                  intro hc
                  rw [List.flatMap_cons, ih (fun x hx => hc x (by simp [hx])), if_neg]
                  · rfl
                  · rintro rfl
                    have := hc 32 (by simp)
                    exact absurd this (by decide)
              exact this _ (fun c hc => (htb c hc).1)
            rw [em]
            unfold readOther
            rw [if_neg, if_neg hth, he]
            · rw [hb]
              cases hw : a.way with
              | mk o t s => rw [hw] at ho hsg; simp only at ho hsg; subst ho; subst hsg; rfl
            · intro hp
              apply hth
              cases hx : a.way.text with
              | nil => rw [hx] at hp; cases hp
              | cons c r =>
                rw [hx] at hp
                simp [List.isPrefixOf] at hp
                rw [← hp.1]
                rfl
          | false =>
            have hne := (h.text ho).2 hh
            have ew : tellWay a.way = tellSegs a.way.segs := by unfold tellWay; rw [ho]; rfl
            have hw := way_told H a h ho
            by_cases hg : 1 < a.way.segs.length ∧ a.way.segs.head? = some []
            · have eg : guardB a = [47, 46] := by unfold guardB; rw [if_pos ⟨hh, hg.1, hg.2⟩]
              have em : tellMid a = 47 :: 46 :: tellSegs a.way.segs := by unfold tellMid; rw [ea, eg, ew]; rfl
              rw [em]
              unfold readOther
              rw [if_neg (by simp [List.isPrefixOf]), if_pos (by rfl)]
              have : readWay a.scheme [] (47 :: 46 :: tellSegs a.way.segs) = a.way := by
                have e1 := segs_way a.scheme [46] a.way.segs [] (by simp) (fun q hq c hc => ((h.seg q hq).2 c hc).2.1)
                show readWay a.scheme [] (47 :: ([46] ++ tellSegs a.way.segs)) = _
                rw [e1]
                have hn2 : a.way.segs ≠ [] := hne
                rw [segLoop_here a.scheme [46] (by decide) a.way.segs hn2 []]
                have e2 := segLoop_good a.scheme [] a.way.segs [] h.seg (fun x _ => h.drive x)
                rw [List.append_nil, List.nil_append] at e2
                rw [e2]
                have := (h.text ho).1
                cases hww : a.way with
                | mk o t s => rw [hww] at ho this; simp only at ho this; subst ho; subst this; rfl
              rw [this, hb]
            · have eg : guardB a = [] := by unfold guardB; rw [if_neg]; rintro ⟨_, h2, h3⟩; exact hg ⟨h2, h3⟩
              have em : tellMid a = tellSegs a.way.segs := by unfold tellMid; rw [ea, eg, ew]; rfl
              rw [em]
              unfold readOther
              rw [if_neg, if_pos, hw, hb]
              · rcases tellSegs_head a.way.segs with ⟨h1, _⟩ | ⟨r, hr⟩
                · exact absurd h1 hne
                · rw [hr]; rfl
              · cases hsg : a.way.segs with
                | nil => exact absurd hsg hne
                | cons p l =>
                  rw [hsg] at hg
                  cases p with
                  | nil =>
                    cases l with
                    | nil => decide
                    | cons q l => exact absurd ⟨by simp, rfl⟩ hg
                  | cons c p =>
                    have hc := ((h.seg (c :: p) (by rw [hsg]; simp)).2 c (by simp)).2.1
                    intro hp
                    simp [tellSegs, List.isPrefixOf] at hp
                    exact hc hp.symm
      simp only [Bool.false_eq_true, if_false, this]

/-- What is told is read as itself. -/
theorem read_good (hl : HostLaws H) (a : Adr) (h : Good H a) (base : Option Adr) : readAddr H (tellAddr a) base = .ok a := by
  unfold readAddr
  rw [cut_told H hl a h]
  unfold readCuts
  rw [if_pos (Good.ne H a h)]
  unfold readMarked
  rw [show evenSlashes a.scheme (tellMid a) = tellMid a from ?_]
  · rw [show a.query.map (esc (querySet a.scheme)) = a.query from opt_same _ _ h.query, middle_told H hl a h]
    · show Except.ok (⟨a.scheme, a.auth, a.way, a.query, a.frag.map (esc 1)⟩ : Adr) = _
      rw [opt_same 1 a.frag h.frag]
    · intro hs
      cases base with
      | none => rfl
      | some b =>
        show (if b.scheme = a.scheme ∧ special a.scheme = true then some b else none) = none
        rw [if_neg]
        rintro ⟨_, h2⟩
        rw [hs] at h2
        cases h2
  · cases hs : special a.scheme with
    | true => exact even_same _ _ (fun c hc => (mid_bytes H hl a h c hc).2.2.2.2 hs)
    | false => unfold evenSlashes; rw [hs]; rfl
end
end Go.Moor
