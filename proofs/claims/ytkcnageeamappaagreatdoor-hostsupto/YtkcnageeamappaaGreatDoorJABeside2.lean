/-
  Plain mathematics on relative addresses of known making, beside a base of known making.
-/
import Derived.Test.YtkcnageeamappaaGreatDoorJADrives
namespace Go.Moor
open Go

def five : List Bs := [sHttp, sHttps, sWs, sWss, sFtp]
theorem five_ok : ∀ s ∈ five, special s = true ∧ s ≠ sFile ∧ s ≠ [] ∧ isSchemeB s = true ∧ Lib.toLowerA s = s ∧ ∀ c ∈ s, c ≠ 58 ∧ 33 ≤ c.toNat := by decide +kernel

theorem cutOpt_none (c : UInt8) (t : Bs) (h : ∀ x ∈ t, x ≠ c) : cutOpt c t = (t, none) := by
  unfold cutOpt
  rw [cutB_none c t h]
theorem cutOpt_some (c : UInt8) (a b : Bs) (h : ∀ x ∈ a, x ≠ c) : cutOpt c (a ++ c :: b) = (a, some b) := by
  unfold cutOpt
  rw [cutB_some c b a h]
/-- A text with a scheme. -/
theorem cutMarks_named (s m : Bs) (q f : Option Bs) (hs : isSchemeB s = true) (hl : Lib.toLowerA s = s) (h58 : ∀ c ∈ s, c ≠ 58) (hm : ∀ c ∈ m, c ≠ 35 ∧ c ≠ 63) (hq : ∀ x, q = some x → ∀ c ∈ x, c ≠ 35) :
    cutMarks (s ++ 58 :: (m ++ (tellOpt 63 q ++ tellOpt 35 f))) = ⟨s, m, q, f⟩ := by
  have e1 : cutScheme (s ++ 58 :: (m ++ (tellOpt 63 q ++ tellOpt 35 f))) = (s, m ++ (tellOpt 63 q ++ tellOpt 35 f)) := by
    unfold cutScheme
    rw [cutB_some 58 _ s h58]
    show (if isSchemeB s = true then (Lib.toLowerA s, _) else _) = _
    rw [if_pos hs, hl]
  have hmq : ∀ c ∈ m ++ tellOpt 63 q, c ≠ 35 := by
    intro c hc
    rcases List.mem_append.1 hc with hc | hc
    · exact (hm c hc).1
    · cases q with
      | none => simp [tellOpt] at hc
      | some x =>
        simp only [tellOpt, List.mem_cons] at hc
        rcases hc with rfl | hc
        · decide
        · exact hq x rfl c hc
  have e2 : cutOpt 35 (m ++ (tellOpt 63 q ++ tellOpt 35 f)) = (m ++ tellOpt 63 q, f) := by
    rw [← List.append_assoc]
    cases f with
    | none => rw [show tellOpt 35 none = [] from rfl, List.append_nil, cutOpt_none 35 _ hmq]
    | some x => exact cutOpt_some 35 _ x hmq
  have e3 : cutOpt 63 (m ++ tellOpt 63 q) = (m, q) := by
    cases q with
    | none => rw [show tellOpt 63 none = [] from rfl, List.append_nil, cutOpt_none 63 _ (fun c hc => (hm c hc).2)]
    | some x => exact cutOpt_some 63 m x (fun c hc => (hm c hc).2)
  unfold cutMarks
  rw [e1]
  show (⟨s, (cutOpt 63 (cutOpt 35 (m ++ (tellOpt 63 q ++ tellOpt 35 f))).1).1, (cutOpt 63 (cutOpt 35 (m ++ (tellOpt 63 q ++ tellOpt 35 f))).1).2, (cutOpt 35 (m ++ (tellOpt 63 q ++ tellOpt 35 f))).2⟩ : Cuts) = _
  rw [e2, e3]
/-- A text without one. -/
theorem cutMarks_bare (m : Bs) (q f : Option Bs) (hm : ∀ c ∈ m, c ≠ 35 ∧ c ≠ 63) (hq : ∀ x, q = some x → ∀ c ∈ x, c ≠ 35) (h58 : ∀ c ∈ m ++ (tellOpt 63 q ++ tellOpt 35 f), c ≠ 58) :
    cutMarks (m ++ (tellOpt 63 q ++ tellOpt 35 f)) = ⟨[], m, q, f⟩ := by
  have e1 : cutScheme (m ++ (tellOpt 63 q ++ tellOpt 35 f)) = ([], m ++ (tellOpt 63 q ++ tellOpt 35 f)) := by
    unfold cutScheme
    rw [cutB_none 58 _ h58]
  have hmq : ∀ c ∈ m ++ tellOpt 63 q, c ≠ 35 := by
    intro c hc
    rcases List.mem_append.1 hc with hc | hc
    · exact (hm c hc).1
    · cases q with
      | none => simp [tellOpt] at hc
      | some x =>
        simp only [tellOpt, List.mem_cons] at hc
        rcases hc with rfl | hc
        · decide
        · exact hq x rfl c hc
  have e2 : cutOpt 35 (m ++ (tellOpt 63 q ++ tellOpt 35 f)) = (m ++ tellOpt 63 q, f) := by
    rw [← List.append_assoc]
    cases f with
    | none => rw [show tellOpt 35 none = [] from rfl, List.append_nil, cutOpt_none 35 _ hmq]
    | some x => exact cutOpt_some 35 _ x hmq
  have e3 : cutOpt 63 (m ++ tellOpt 63 q) = (m, q) := by
    cases q with
    | none => rw [show tellOpt 63 none = [] from rfl, List.append_nil, cutOpt_none 63 _ (fun c hc => (hm c hc).2)]
    | some x => exact cutOpt_some 63 m x (fun c hc => (hm c hc).2)
  unfold cutMarks
  rw [e1]
  show (⟨[], (cutOpt 63 (cutOpt 35 (m ++ (tellOpt 63 q ++ tellOpt 35 f))).1).1, (cutOpt 63 (cutOpt 35 (m ++ (tellOpt 63 q ++ tellOpt 35 f))).1).2, (cutOpt 35 (m ++ (tellOpt 63 q ++ tellOpt 35 f))).2⟩ : Cuts) = _
  rw [e2, e3]

/-- A host that is told as it is written, and has no mark. -/
structure HostOk (H : Bs → Bool → Option Bs) (h : Bs) : Prop where
  ne : h ≠ []
  bytes : ∀ c ∈ h, calmB c ∧ c ≠ 47 ∧ c ≠ 64 ∧ c ≠ 58 ∧ c ≠ 91
  told : H h true = some h

def plainAuth (h : Bs) : Auth := ⟨[], [], true, h, -1⟩
theorem readAuth_host (H : Bs → Bool → Option Bs) (s h : Bs) (hs : special s = true) (hh : HostOk H h) : readAuth H h s = .ok (plainAuth h) := by
  have e1 : cutLogin h = ([], h) := by
    unfold cutLogin cutLast
    rw [cutB_none 64 h.reverse (fun c hc => (hh.bytes c (by simpa using hc)).2.2.1)]
    rfl
  have e2 : brackets h = 0 := by
    unfold brackets
    rw [if_neg]
    match h, hh.ne, hh.bytes with
    | c :: r, _, hb =>
      have := (hb c (by simp)).2.2.2.2
      simpa using this
  have e3 : cutPort h = (h, []) := by
    unfold cutPort
    rw [e2]
    show (match cutB 58 h with | some (a, b) => ([] ++ a, b) | none => (h, [])) = _
    rw [cutB_none 58 h (fun c hc => (hh.bytes c hc).2.2.2.1)]
  have e4 : tellHost H h h s = some h := by
    unfold tellHost
    rw [if_neg (fun x => hh.ne x.1), hs, hh.told]
  unfold readAuth
  rw [e1]
  show (match tellHost H (cutPort h).1 h s with | none => (Except.error 4 : Except Int Auth) | some x => match readPort (cutPort h).2 s with | none => (Except.error 5 : Except Int Auth) | some p => (.ok ⟨esc 5 (cutOpt 58 []).1, esc 5 ((cutOpt 58 []).2.getD []), true, x, p⟩ : Except Int Auth)) = _
  rw [e3, e4]
  rfl

theorem segs_way (s x : Bs) (ps begun : List Bs) (hx : ∀ c ∈ x, c ≠ 47) (hp : ∀ p ∈ ps, ∀ c ∈ p, c ≠ 47) : readWay s begun (47 :: (x ++ tellSegs ps)) = ⟨false, [], segLoop s begun (x :: ps)⟩ := by
  unfold readWay readSegs
  rw [if_neg (by simp)]
  show (⟨false, [], segLoop s begun (splitOn 47 (x ++ tellSegs ps))⟩ : Way) = _
  rw [splitOn_tell ps x hx hp]
theorem fromAuth_host (H : Bs → Bool → Option Bs) (s h : Bs) (ps : List Bs) (hs : special s = true) (hh : HostOk H h) (hp : ∀ p ∈ ps, wordB p) (hpn : ps ≠ []) : fromAuth H s (h ++ tellSegs ps) = .ok (plainAuth h, ⟨false, [], ps⟩) := by
  match ps, hpn, hp with
  | p :: ps, _, hp =>
    unfold fromAuth
    show (match readAuth H (cutSlash (h ++ 47 :: (p ++ tellSegs ps))).1 s with | .error e => (Except.error e : Except Int (Auth × Way)) | .ok a => (.ok (a, readWay s [] (cutSlash (h ++ 47 :: (p ++ tellSegs ps))).2) : Except Int (Auth × Way))) = _
    rw [cutSlash_at h _ (fun c hc => (hh.bytes c hc).2.1), readAuth_host H s h hs hh]
    show Except.ok (plainAuth h, readWay s [] (47 :: (p ++ tellSegs ps))) = _
    rw [segs_way s p ps [] (word_slash p (hp p (by simp))) (fun q hq => word_slash q (hp q (by simp [hq]))), segLoop_words s (p :: ps) [] hp]
    rfl

/-- The base: its scheme, its host, its segments, the query q, the fragment f. -/
def baseAddr (s h : Bs) (ps : List Bs) : Adr := ⟨s, plainAuth h, ⟨false, [], ps⟩, some [113], some [102]⟩
def baseTxt (s h : Bs) (ps : List Bs) : Bs := s ++ 58 :: ((47 :: 47 :: (h ++ tellSegs ps)) ++ (tellOpt 63 (some [113]) ++ tellOpt 35 (some [102])))
theorem noSlash_trim (t : Bs) (h : t.head? ≠ some 47) : trimSlashes t = t := by
  unfold trimSlashes
  cases t with
  | nil => rfl
  | cons c r =>
    rw [List.dropWhile_cons_of_neg]
    simpa using h
theorem trim_two (t : Bs) (h : t.head? ≠ some 47) : trimSlashes (47 :: 47 :: t) = t := noSlash_trim t h
theorem host_head (H : Bs → Bool → Option Bs) (h r : Bs) (hh : HostOk H h) : (h ++ r).head? ≠ some 47 := by
  match h, hh.ne, hh.bytes with
  | c :: x, _, hb =>
    have := (hb c (by simp)).2.1
    simpa using this
theorem c47 : calmB 47 := ⟨by decide, by decide, by decide, by decide⟩
theorem host_calm (H : Bs → Bool → Option Bs) (h : Bs) (ps : List Bs) (hh : HostOk H h) (hp : ∀ p ∈ ps, wordB p) : ∀ c ∈ 47 :: 47 :: (h ++ tellSegs ps), calmB c := by
  intro c hc
  simp only [List.mem_cons, List.mem_append] at hc
  rcases hc with rfl | rfl | hc | hc
  · exact c47
  · exact c47
  · exact (hh.bytes c hc).1
  · exact calm_segs ps (fun p hq => word_calm p (hp p hq)) c hc
theorem read_base (H : Bs → Bool → Option Bs) (s h : Bs) (ps : List Bs) (hs : s ∈ five) (hh : HostOk H h) (hp : ∀ p ∈ ps, wordB p) (hpn : ps ≠ []) : readAddr H (baseTxt s h ps) none = .ok (baseAddr s h ps) := by
  obtain ⟨f1, f2, f3, f4, f5, f6⟩ := five_ok s hs
  have hc := host_calm H h ps hh hp
  unfold readAddr baseTxt
  rw [strip_same _ (by
    intro c hx
    rcases List.mem_append.1 hx with hx | hx
    · exact (f6 c hx).2
    · rcases List.mem_cons.1 hx with rfl | hx
      · decide
      · rcases List.mem_append.1 hx with hx | hx
        · exact (hc c hx).1
        · simp [tellOpt] at hx
          rcases hx with rfl | rfl | rfl | rfl <;> decide), cutMarks_named s _ (some [113]) (some [102]) f4 f5 (fun c hx => (f6 c hx).1) (fun c hx => ⟨(hc c hx).2.1, (hc c hx).2.2.1⟩) (by intro x hx; cases hx; decide)]
  unfold readCuts
  rw [if_pos f3]
  show readMarked H s (47 :: 47 :: (h ++ tellSegs ps)) (some [113]) (some [102]) none = _
  unfold readMarked
  rw [even_same s _ (fun c hx => (hc c hx).2.2.2)]
  unfold readMiddle
  rw [if_neg f2]
  show (match (match (if special s = true then fromAuth H s (trimSlashes (47 :: 47 :: (h ++ tellSegs ps))) else _) with | .error e => (.error e : Except Int (Auth × Way × Option Bs)) | .ok (a, w) => .ok (a, w, Option.map (esc (querySet s)) (some [113]))) with | .error e => (.error e : Except Int Adr) | .ok (a, w, q2) => .ok ⟨s, a, w, q2, Option.map (esc 1) (some [102])⟩) = _
  rw [if_pos f1, trim_two _ (host_head H h _ hh), fromAuth_host H s h ps f1 hh hp hpn]
  show Except.ok (⟨s, plainAuth h, ⟨false, [], ps⟩, some (esc (querySet s) [113]), some (esc 1 [102])⟩ : Adr) = _
  rw [show esc 1 [102] = [102] by decide +kernel]
  have : querySet s = 3 := by unfold querySet; rw [if_pos f1]
  rw [this, show esc 3 [113] = [113] by decide +kernel]
  rfl

/-- What is read beside the base, from what is cut. -/
theorem read_beside (H : Bs → Bool → Option Bs) (s h m : Bs) (q f : Option Bs) (ps : List Bs) (hs : s ∈ five) (hm : ∀ c ∈ m, c ≠ 92) : readCuts H ⟨[], m, q, f⟩ (some (baseAddr s h ps)) =
    match readRelative H s m (q.map (esc 3)) (baseAddr s h ps) with
    | .error e => .error e
    | .ok (a, w, q2) => .ok ⟨s, a, w, q2, f.map (esc 1)⟩ := by
  obtain ⟨f1, f2, f3, f4, f5, f6⟩ := five_ok s hs
  unfold readCuts
  rw [if_neg (by simp)]
  show readMarked H s m q f (some (baseAddr s h ps)) = _
  unfold readMarked
  rw [even_same s m hm]
  unfold readMiddle
  rw [if_neg f2]
  have : querySet s = 3 := by unfold querySet; rw [if_pos f1]
  rw [this]
  rfl
theorem tell_plain (s h : Bs) (ps : List Bs) (q f : Option Bs) : tellAddr ⟨s, plainAuth h, ⟨false, [], ps⟩, q, f⟩ = s ++ 58 :: 47 :: 47 :: (h ++ (tellSegs ps ++ (tellOpt 63 q ++ tellOpt 35 f))) := by
  unfold tellAddr plainAuth guardB tellAuth tellLogin tellPlace tellWay
  simp
end Go.Moor
/-
  Plain mathematics on relative addresses of known making: where each of eight of them goes.
-/
namespace Go.Moor
open Go

/-- The ways up, as they are written, and their segments. -/
def upTxt (i : Nat) : Bs := if i % 3 = 0 then [46, 46, 47] else if i % 3 = 1 then [46, 47, 37, 50, 69, 37, 50, 101, 47] else [46, 37, 50, 101, 92]
def upSegs (i : Nat) : List Bs := if i % 3 = 0 then [[46, 46]] else if i % 3 = 1 then [[46], [37, 50, 69, 37, 50, 101]] else [[46, 37, 50, 101]]
def upsTxt (n : Nat) : Bs := (List.range n).flatMap upTxt
def upsSegs (n : Nat) : List Bs := (List.range n).flatMap upSegs
theorem upsTxt_next (n : Nat) : upsTxt (n + 1) = upsTxt n ++ upTxt n := by
  unfold upsTxt
  rw [List.range_succ, List.flatMap_append]
  simp
theorem upsSegs_next (n : Nat) : upsSegs (n + 1) = upsSegs n ++ upSegs n := by
  unfold upsSegs
  rw [List.range_succ, List.flatMap_append]
  simp
theorem upTxt_len (n : Nat) : (upsTxt n).length ≤ 9 * n := by
  induction n with
  | zero => simp [upsTxt]
  | succ n ih =>
    rw [upsTxt_next, List.length_append]
    have : (upTxt n).length ≤ 9 := by
      unfold upTxt
      split
      · simp
      · split <;> simp
    omega

def evenB (c : UInt8) : UInt8 := if c = 92 then 47 else c
theorem even_map (s t : Bs) (hs : special s = true) : evenSlashes s t = t.map evenB := by
  unfold evenSlashes
  rw [if_pos hs]
  rfl
theorem even_id (t : Bs) (h : ∀ c ∈ t, c ≠ 92) : t.map evenB = t := (List.map_congr_left (g := id) (fun c hc => if_neg (h c hc))).trans (List.map_id t)
theorem up_even (i : Nat) : (upTxt i).map evenB = (upSegs i).flatMap fun p => p ++ [47] := by
  unfold upTxt upSegs
  split
  · decide
  · split <;> decide
theorem ups_even (n : Nat) : (upsTxt n).map evenB = (upsSegs n).flatMap fun p => p ++ [47] := by
  induction n with
  | zero => rfl
  | succ n ih => rw [upsTxt_next, upsSegs_next, List.map_append, List.flatMap_append, ih, up_even]
theorem up_slash (n : Nat) : ∀ p ∈ upsSegs n, ∀ c ∈ p, c ≠ 47 := by
  intro p hp
  unfold upsSegs at hp
  obtain ⟨i, _, hi⟩ := List.mem_flatMap.1 hp
  unfold upSegs at hi
  split at hi
  · simp at hi; subst hi; decide
  · split at hi
    · simp at hi
      rcases hi with rfl | rfl <;> decide
    · simp at hi; subst hi; decide
theorem splitOn_lead (r : Bs) : ∀ l : List Bs, (∀ p ∈ l, ∀ c ∈ p, c ≠ 47) → splitOn 47 ((l.flatMap fun p => p ++ [47]) ++ r) = l ++ splitOn 47 r
  | [], _ => rfl
  | p :: l, h => by
    rw [List.flatMap_cons, List.append_assoc, List.append_assoc]
    show splitOn 47 (p ++ 47 :: ((l.flatMap fun p => p ++ [47]) ++ r)) = _
    rw [splitOn_hit 47 _ p (h p (by simp)), splitOn_lead r l (fun q hq => h q (by simp [hq]))]
    rfl
theorem up_one (s : Bs) (hs : s ≠ sFile) (i : Nat) (segs r : List Bs) (hr : r ≠ []) : segLoop s segs (upSegs i ++ r) = segLoop s segs.dropLast r := by
  unfold upSegs
  split
  · show segLoop s segs ([46, 46] :: r) = _
    rw [segLoop_up s _ (by decide +kernel) r hr, withoutLast_plain s hs]
  · split
    · show segLoop s segs ([46] :: [37, 50, 69, 37, 50, 101] :: r) = _
      rw [segLoop_here s _ (by decide +kernel) _ (by simp), segLoop_up s _ (by decide +kernel) r hr, withoutLast_plain s hs]
    · show segLoop s segs ([46, 37, 50, 101] :: r) = _
      rw [segLoop_up s _ (by decide +kernel) r hr, withoutLast_plain s hs]
theorem up_all (s : Bs) (hs : s ≠ sFile) (segs : List Bs) : ∀ (n : Nat) (r : List Bs), r ≠ [] → segLoop s segs (upsSegs n ++ r) = segLoop s (segs.take (segs.length - n)) r
  | 0, r, _ => by
    show segLoop s segs r = _
    simp
  | n + 1, r, hr => by
    rw [upsSegs_next, List.append_assoc, up_all s hs segs n _ (by simp [hr]), up_one s hs n _ r hr, List.dropLast_eq_take, List.length_take, List.take_take]
    congr 2
    omega

theorem upsTxt_bytes (n : Nat) : ∀ c ∈ upsTxt n, 33 ≤ c.toNat ∧ c ≠ 35 ∧ c ≠ 63 ∧ c ≠ 58 := by
  intro c hc
  unfold upsTxt at hc
  obtain ⟨i, _, hi⟩ := List.mem_flatMap.1 hc
  revert c
  unfold upTxt
  split
  · intro c _ hi; simp at hi; rcases hi with rfl | rfl <;> decide
  · split
    · intro c _ hi; simp at hi; rcases hi with rfl | rfl | rfl | rfl | rfl | rfl | rfl | rfl | rfl <;> decide
    · intro c _ hi; simp at hi; rcases hi with rfl | rfl | rfl | rfl | rfl <;> decide
theorem word_bytes (p : Bs) (h : wordB p) : ∀ c ∈ p, 33 ≤ c.toNat ∧ c ≠ 35 ∧ c ≠ 63 ∧ c ≠ 58 := fun c hc => ⟨(word_calm p h c hc).1, (word_calm p h c hc).2.1, (word_calm p h c hc).2.2.1, small_ne c (h.2 c hc) 58 (by omega) (by omega)⟩
theorem segs_bytes (l : List Bs) (h : ∀ p ∈ l, wordB p) : ∀ c ∈ tellSegs l, 33 ≤ c.toNat ∧ c ≠ 35 ∧ c ≠ 63 ∧ c ≠ 58 := by
  intro c hc
  unfold tellSegs at hc
  obtain ⟨p, hp, hm⟩ := List.mem_flatMap.1 hc
  rcases List.mem_cons.1 hm with rfl | hm
  · decide
  · exact word_bytes p (h p hp) c hm

section
variable (H : Bs → Bool → Option Bs)

theorem read_evened (s h m : Bs) (q f : Option Bs) (ps : List Bs) (hs : s ∈ five) : readCuts H ⟨[], m, q, f⟩ (some (baseAddr s h ps)) =
    match readRelative H s (m.map evenB) (q.map (esc 3)) (baseAddr s h ps) with
    | .error e => .error e
    | .ok (a, w, q2) => .ok ⟨s, a, w, q2, f.map (esc 1)⟩ := by
  obtain ⟨f1, f2, f3, f4, f5, f6⟩ := five_ok s hs
  unfold readCuts
  rw [if_neg (by simp)]
  show readMarked H s m q f (some (baseAddr s h ps)) = _
  unfold readMarked
  rw [even_map s m f1]
  unfold readMiddle
  rw [if_neg f2]
  have : querySet s = 3 := by unfold querySet; rw [if_pos f1]
  rw [this]
  rfl
/-- A text of a middle alone. -/
theorem read_middle (s h m : Bs) (ps : List Bs) (hs : s ∈ five) (hm : ∀ c ∈ m, 33 ≤ c.toNat ∧ c ≠ 35 ∧ c ≠ 63 ∧ c ≠ 58) : readAddr H m (some (baseAddr s h ps)) =
    match readRelative H s (m.map evenB) none (baseAddr s h ps) with
    | .error e => .error e
    | .ok (a, w, q2) => .ok ⟨s, a, w, q2, none⟩ := by
  unfold readAddr
  rw [strip_same m (fun c hc => (hm c hc).1)]
  have := cutMarks_bare m none none (fun c hc => ⟨(hm c hc).2.1, (hm c hc).2.2.1⟩) (fun _ h => by cases h) (by
    intro c hc
    simp [tellOpt] at hc
    exact (hm c hc).2.2.2)
  rw [show m ++ (tellOpt 63 none ++ tellOpt 35 none) = m by simp [tellOpt]] at this
  rw [this, read_evened H s h m none none ps hs]
  rfl

theorem goOn_some (s m : Bs) (q : Option Bs) (b : Adr) (hm : m ≠ []) : goOn s m q b = (readWay s (withoutLast s b.way.segs) m, q) := by
  unfold goOn
  rw [if_pos hm]
theorem relative_on (s m : Bs) (q : Option Bs) (b : Adr) (hm : m ≠ []) (h47 : m.head? ≠ some 47) : readRelative H s m q b = .ok (b.auth, readWay s (withoutLast s b.way.segs) m, q) := by
  unfold readRelative
  rw [if_neg (by
    cases m with
    | nil => exact absurd rfl hm
    | cons c r =>
      simp at h47
      simp [List.isPrefixOf]
      intro h
      exact absurd h.symm h47), if_neg h47, goOn_some s m q b hm]

theorem beside_a (s h : Bs) (W d : List Bs) (hs : s ∈ five) (hd : ∀ p ∈ d, wordB p) (hdn : d ≠ []) (n : Nat) (leaf : Bs) :
    readAddr H (upsTxt n ++ (tellSegs d).drop 1) (some (baseAddr s h (W ++ [leaf]))) = .ok ⟨s, plainAuth h, ⟨false, [], W.take (W.length - n) ++ d⟩, none, none⟩ := by
  obtain ⟨f1, f2, f3, f4, f5, f6⟩ := five_ok s hs
  match d, hdn, hd with
  | p :: ds, _, hd =>
    have hp := hd p (by simp)
    have hds : ∀ q ∈ ds, wordB q := fun q hq => hd q (by simp [hq])
    show readAddr H (upsTxt n ++ (p ++ tellSegs ds)) _ = _
    rw [read_middle H s h _ _ hs (by
      intro c hc
      simp only [List.mem_append] at hc
      rcases hc with hc | hc | hc
      · exact upsTxt_bytes n c hc
      · exact word_bytes p hp c hc
      · exact segs_bytes ds hds c hc)]
    have em : (upsTxt n ++ (p ++ tellSegs ds)).map evenB = ((upsSegs n).flatMap fun p => p ++ [47]) ++ (p ++ tellSegs ds) := by
      rw [List.map_append, ups_even, even_id _ (by
        intro c hc
        rcases List.mem_append.1 hc with hc | hc
        · exact (word_calm p hp c hc).2.2.2
        · exact (calm_segs ds (fun q hq => word_calm q (hds q hq)) c hc).2.2.2)]
    rw [em]
    have hne : ((upsSegs n).flatMap fun p => p ++ [47]) ++ (p ++ tellSegs ds) ≠ [] := by
      have := hp.1
      simp [this]
    have hhd : (((upsSegs n).flatMap fun p => p ++ [47]) ++ (p ++ tellSegs ds)).head? ≠ some 47 := by
      cases n with
      | zero =>
        show (p ++ tellSegs ds).head? ≠ some 47
        match p, hp with
        | c :: r, hp =>
          have := word_slash _ hp c (by simp)
          simpa using this
      | succ n =>
        have e : upsSegs (n + 1) = [46, 46] :: ((List.range n).map (· + 1)).flatMap upSegs := by
          unfold upsSegs
          rw [List.range_succ_eq_map, List.flatMap_cons]
          rfl
        rw [e, List.flatMap_cons]
        simp
    rw [relative_on H s _ none _ hne hhd]
    show Except.ok (⟨s, plainAuth h, readWay s (withoutLast s (W ++ [leaf])) _, none, none⟩ : Adr) = _
    rw [withoutLast_plain s f2, List.dropLast_concat]
    have es : readWay s W (((upsSegs n).flatMap fun p => p ++ [47]) ++ (p ++ tellSegs ds)) = ⟨false, [], W.take (W.length - n) ++ (p :: ds)⟩ := by
      unfold readWay readSegs
      rw [if_neg (fun x => hne x.1)]
      have et : trimSlash (((upsSegs n).flatMap fun p => p ++ [47]) ++ (p ++ tellSegs ds)) = ((upsSegs n).flatMap fun p => p ++ [47]) ++ (p ++ tellSegs ds) := by
        generalize ((upsSegs n).flatMap fun p => p ++ [47]) ++ (p ++ tellSegs ds) = t at hhd
        unfold trimSlash
        split
        · simp at hhd
        · rfl
      rw [et, splitOn_lead _ _ (up_slash n), splitOn_tell ds p (word_slash p hp) (fun q hq => word_slash q (hds q hq)), up_all s f2 W n _ (by simp), segLoop_words s (p :: ds) _ hd]
    rw [es]

theorem beside_b (s h : Bs) (l d : List Bs) (hs : s ∈ five) (hd : ∀ p ∈ d, wordB p) (hdn : d ≠ []) :
    readAddr H (tellSegs d ++ [47, 46]) (some (baseAddr s h l)) = .ok ⟨s, plainAuth h, ⟨false, [], d ++ [[]]⟩, none, none⟩ := by
  match d, hdn, hd with
  | p :: ds, _, hd =>
    have hp := hd p (by simp)
    have hds : ∀ q ∈ ds, wordB q := fun q hq => hd q (by simp [hq])
    have et : tellSegs (p :: ds) ++ [47, 46] = 47 :: (p ++ tellSegs (ds ++ [[46]])) := by
      rw [tellSegs_app]
      show (47 :: p ++ tellSegs ds) ++ [47, 46] = 47 :: (p ++ (tellSegs ds ++ [47, 46]))
      simp
    rw [et, read_middle H s h _ _ hs (by
      intro c hc
      rw [← et] at hc
      rcases List.mem_append.1 hc with hc | hc
      · exact segs_bytes _ hd c hc
      · simp at hc; rcases hc with rfl | rfl <;> decide)]
    have em : (47 :: (p ++ tellSegs (ds ++ [[46]]))).map evenB = 47 :: (p ++ tellSegs (ds ++ [[46]])) := even_id _ (by
      intro c hc
      rw [← et] at hc
      rcases List.mem_append.1 hc with hc | hc
      · exact (calm_segs _ (fun q hq => word_calm q (hd q hq)) c hc).2.2.2
      · simp at hc; rcases hc with rfl | rfl <;> decide)
    rw [em]
    have hsl : ∀ q ∈ ds ++ [[46]], ∀ c ∈ q, c ≠ 47 := by
      intro q hq
      rcases List.mem_append.1 hq with hq | hq
      · exact word_slash q (hds q hq)
      · simp at hq; subst hq; decide
    have er : readRelative H s (47 :: (p ++ tellSegs (ds ++ [[46]]))) none (baseAddr s h l) = .ok (plainAuth h, readWay s [] (47 :: (p ++ tellSegs (ds ++ [[46]]))), none) := by
      unfold readRelative
      rw [if_neg (by
        match p, hp with
        | c :: r, hp =>
          have := word_slash _ hp c (by simp)
          simp [List.isPrefixOf]
          exact fun h => this h.symm), if_pos (by rfl)]
      rfl
    rw [er, segs_way s p _ [] (word_slash p hp) hsl]
    have : segLoop s [] (p :: (ds ++ [[46]])) = (p :: ds) ++ [[]] := by
      show segLoop s [] ((p :: ds) ++ [[46]]) = _
      rw [segLoop_stays s [[46]] (p :: ds) [] (fun q hq => stays_word s q (hd q hq)), segLoop, if_neg (by decide +kernel), if_neg (by decide +kernel)]
      rfl
    rw [this]

theorem beside_i (s h : Bs) (l d : List Bs) (hs : s ∈ five) (hd : ∀ p ∈ d, wordB p) (hdn : d ≠ []) :
    readAddr H (s ++ 58 :: tellSegs d) (some (baseAddr s h l)) = .ok ⟨s, plainAuth h, ⟨false, [], d⟩, none, none⟩ := by
  obtain ⟨f1, f2, f3, f4, f5, f6⟩ := five_ok s hs
  match d, hdn, hd with
  | p :: ds, _, hd =>
    have hp := hd p (by simp)
    have hds : ∀ q ∈ ds, wordB q := fun q hq => hd q (by simp [hq])
    have hb := segs_bytes _ hd
    unfold readAddr
    rw [strip_same _ (by
      intro c hx
      rcases List.mem_append.1 hx with hx | hx
      · exact (f6 c hx).2
      · rcases List.mem_cons.1 hx with rfl | hx
        · decide
        · exact (hb c hx).1)]
    have := cutMarks_named s (tellSegs (p :: ds)) none none f4 f5 (fun c hx => (f6 c hx).1) (fun c hx => ⟨(hb c hx).2.1, (hb c hx).2.2.1⟩) (fun _ h => by cases h)
    rw [show tellSegs (p :: ds) ++ (tellOpt 63 none ++ tellOpt 35 none) = tellSegs (p :: ds) by simp [tellOpt]] at this
    rw [this]
    unfold readCuts
    rw [if_pos f3]
    show readMarked H s (tellSegs (p :: ds)) none none (if s = s ∧ special s = true then some (baseAddr s h l) else none) = _
    rw [if_pos ⟨rfl, f1⟩]
    unfold readMarked
    rw [even_same s _ (fun c hc => (calm_segs _ (fun q hq => word_calm q (hd q hq)) c hc).2.2.2)]
    unfold readMiddle
    rw [if_neg f2]
    have er : readRelative H s (47 :: (p ++ tellSegs ds)) (Option.map (esc (querySet s)) none) (baseAddr s h l) = .ok (plainAuth h, readWay s [] (47 :: (p ++ tellSegs ds)), none) := by
      unfold readRelative
      rw [if_neg (by
        match p, hp with
        | c :: r, hp =>
          have := word_slash _ hp c (by simp)
          simp [List.isPrefixOf]
          exact fun h => this h.symm), if_pos (by rfl)]
      rfl
    show (match readRelative H s (47 :: (p ++ tellSegs ds)) (Option.map (esc (querySet s)) none) (baseAddr s h l) with | .error e => (.error e : Except Int Adr) | .ok (a, w, q2) => .ok ⟨s, a, w, q2, Option.map (esc 1) none⟩) = _
    rw [er, segs_way s p ds [] (word_slash p hp) (fun q hq => word_slash q (hds q hq)), segLoop_words s (p :: ds) [] hd]
    rfl

def wOther : Bs := [111, 116, 104, 101, 114]
theorem beside_c (s h : Bs) (l d : List Bs) (hs : s ∈ five) (ho : HostOk H wOther) (hd : ∀ p ∈ d, wordB p) (hdn : d ≠ []) :
    readAddr H (47 :: 47 :: (wOther ++ tellSegs d)) (some (baseAddr s h l)) = .ok ⟨s, plainAuth wOther, ⟨false, [], d⟩, none, none⟩ := by
  obtain ⟨f1, f2, f3, f4, f5, f6⟩ := five_ok s hs
  have hc := host_calm H wOther d ho hd
  rw [read_middle H s h _ _ hs (by
    intro c hx
    refine ⟨(hc c hx).1, (hc c hx).2.1, (hc c hx).2.2.1, ?_⟩
    simp only [List.mem_cons, List.mem_append] at hx
    rcases hx with rfl | rfl | hx | hx
    · decide
    · decide
    · exact (ho.bytes c hx).2.2.2.1
    · exact (segs_bytes d hd c hx).2.2.2), even_id _ (fun c hx => (hc c hx).2.2.2)]
  have er : readRelative H s (47 :: 47 :: (wOther ++ tellSegs d)) none (baseAddr s h l) = .ok (plainAuth wOther, ⟨false, [], d⟩, none) := by
    unfold readRelative
    rw [if_pos (show [47, 47].isPrefixOf (47 :: 47 :: (wOther ++ tellSegs d)) = true by simp [List.isPrefixOf]), if_pos f1]
    show (match fromAuth H s (trimSlashes (wOther ++ tellSegs d)) with | .error e => (.error e : Except Int (Auth × Way × Option Bs)) | .ok (a, w) => .ok (a, w, none)) = _
    rw [noSlash_trim _ (host_head H wOther _ ho), fromAuth_host H s wOther d f1 ho hd hdn]
  rw [er]

theorem goOn_none (s : Bs) (q : Option Bs) (b : Adr) : goOn s [] q b = (b.way, if q.isSome then q else b.query) := by
  unfold goOn
  rw [if_neg (by simp)]
theorem relative_none (s : Bs) (q : Option Bs) (b : Adr) : readRelative H s [] q b = .ok (b.auth, b.way, if q.isSome then q else b.query) := by
  unfold readRelative
  rw [if_neg (by decide), if_neg (by simp), goOn_none]
def wNew : Bs := [110, 101, 119, 32, 120]
def wNewE : Bs := [110, 101, 119, 37, 50, 48, 120]
theorem beside_e (s h : Bs) (l : List Bs) (hs : s ∈ five) : readAddr H (63 :: wNew) (some (baseAddr s h l)) = .ok ⟨s, plainAuth h, ⟨false, [], l⟩, some wNewE, none⟩ := by
  unfold readAddr
  rw [show cutMarks (stripB (63 :: wNew)) = ⟨[], [], some wNew, none⟩ by kernel_rfl, read_evened H s h [] _ _ l hs]
  show (match readRelative H s [] (some (esc 3 wNew)) (baseAddr s h l) with | .error e => (.error e : Except Int Adr) | .ok (a, w, q2) => .ok ⟨s, a, w, q2, none⟩) = _
  rw [relative_none, show esc 3 wNew = wNewE by decide +kernel]
  rfl
theorem beside_f (s h : Bs) (l : List Bs) (hs : s ∈ five) : readAddr H (35 :: wNew) (some (baseAddr s h l)) = .ok ⟨s, plainAuth h, ⟨false, [], l⟩, some [113], some wNewE⟩ := by
  unfold readAddr
  rw [show cutMarks (stripB (35 :: wNew)) = ⟨[], [], none, some wNew⟩ by kernel_rfl, read_evened H s h [] _ _ l hs]
  show (match readRelative H s [] none (baseAddr s h l) with | .error e => (.error e : Except Int Adr) | .ok (a, w, q2) => .ok ⟨s, a, w, q2, some (esc 1 wNew)⟩) = _
  rw [relative_none, show esc 1 wNew = wNewE by decide +kernel]
  rfl
theorem beside_g (s h : Bs) (l : List Bs) (hs : s ∈ five) : readAddr H [] (some (baseAddr s h l)) = .ok ⟨s, plainAuth h, ⟨false, [], l⟩, some [113], none⟩ := by
  unfold readAddr
  rw [show cutMarks (stripB []) = ⟨[], [], none, none⟩ by kernel_rfl, read_evened H s h [] _ _ l hs]
  show (match readRelative H s [] none (baseAddr s h l) with | .error e => (.error e : Except Int Adr) | .ok (a, w, q2) => .ok ⟨s, a, w, q2, none⟩) = _
  rw [relative_none]
  rfl
theorem beside_h (s h : Bs) (W : List Bs) (leaf : Bs) (hs : s ∈ five) : readAddr H [46, 46] (some (baseAddr s h (W ++ [leaf]))) = .ok ⟨s, plainAuth h, ⟨false, [], W.dropLast ++ [[]]⟩, none, none⟩ := by
  obtain ⟨f1, f2, f3, f4, f5, f6⟩ := five_ok s hs
  rw [read_middle H s h _ _ hs (by decide), show ([46, 46] : Bs).map evenB = [46, 46] by decide, relative_on H s [46, 46] none _ (by simp) (by decide)]
  show Except.ok (⟨s, plainAuth h, readWay s (withoutLast s (W ++ [leaf])) [46, 46], none, none⟩ : Adr) = _
  have : readWay s W [46, 46] = ⟨false, [], W.dropLast ++ [[]]⟩ := by
    unfold readWay readSegs
    rw [if_neg (by simp), show splitOn 47 (trimSlash [46, 46]) = [[46, 46]] by decide +kernel, segLoop, if_neg (by decide +kernel), if_pos (by decide +kernel), withoutLast_plain s f2]
    rfl
  rw [withoutLast_plain s f2, List.dropLast_concat, this]
end
end Go.Moor
