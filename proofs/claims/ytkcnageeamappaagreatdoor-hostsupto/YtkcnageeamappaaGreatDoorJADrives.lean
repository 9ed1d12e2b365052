/-
  Plain mathematics on files: a drive is kept, and told with its colon; nothing goes above it; localhost is no host.
-/
import Derived.Test.YtkcnageeamappaaGreatDoorJKWords2
namespace Go.Moor
open Go

/-- Bytes that no step of reading takes for a mark, but the slash and the colon. -/
def calmB (c : UInt8) : Prop := 33 ≤ c.toNat ∧ c ≠ 35 ∧ c ≠ 63 ∧ c ≠ 92
theorem calm_segs (l : List Bs) (h : ∀ p ∈ l, ∀ c ∈ p, calmB c) : ∀ c ∈ tellSegs l, calmB c := by
  intro c hc
  unfold tellSegs at hc
  obtain ⟨p, hp, hm⟩ := List.mem_flatMap.1 hc
  rcases List.mem_cons.1 hm with rfl | hm
  · exact ⟨by decide, by decide, by decide, by decide⟩
  · exact h p hp c hm
theorem small_calm (c : UInt8) (h : smallB c) : calmB c := ⟨by have := h.1; omega, small_ne c h 35 (by omega) (by omega), small_ne c h 63 (by omega) (by omega), small_ne c h 92 (by omega) (by omega)⟩
theorem word_calm (l : Bs) (h : wordB l) : ∀ c ∈ l, calmB c := fun c hc => small_calm c (h.2 c hc)
theorem word_slash (l : Bs) (h : wordB l) : ∀ c ∈ l, c ≠ 47 := fun c hc => small_ne c (h.2 c hc) 47 (by omega) (by omega)

theorem cutMarks_calm (s m : Bs) (hs : isSchemeB s = true) (hl : Lib.toLowerA s = s) (h58 : ∀ c ∈ s, c ≠ 58) (hm : ∀ c ∈ m, calmB c) : cutMarks (s ++ 58 :: m) = ⟨s, m, none, none⟩ := by
  have e1 : cutScheme (s ++ 58 :: m) = (s, m) := by
    unfold cutScheme
    rw [cutB_some 58 m s h58]
    show (if isSchemeB s = true then (Lib.toLowerA s, m) else _) = _
    rw [if_pos hs, hl]
  have e2 : cutOpt 35 m = (m, none) := by unfold cutOpt; rw [cutB_none 35 m (fun c hc => (hm c hc).2.1)]
  have e3 : cutOpt 63 m = (m, none) := by unfold cutOpt; rw [cutB_none 63 m (fun c hc => (hm c hc).2.2.1)]
  unfold cutMarks
  rw [e1]
  show (⟨s, (cutOpt 63 (cutOpt 35 m).1).1, (cutOpt 63 (cutOpt 35 m).1).2, (cutOpt 35 m).2⟩ : Cuts) = _
  rw [e2, e3]
theorem file_scheme : isSchemeB sFile = true ∧ Lib.toLowerA sFile = sFile ∧ ∀ c ∈ sFile, c ≠ 58 ∧ 33 ≤ c.toNat := by decide +kernel
theorem read_file (H : Bs → Bool → Option Bs) (m : Bs) (base : Option Adr) (hm : ∀ c ∈ m, calmB c) (hb : ∀ b, base = some b → b.scheme = sFile) :
    readAddr H (sFile ++ 58 :: m) base = match readFile H m none base with
      | .error e => .error e
      | .ok (a, w, q) => .ok ⟨sFile, a, w, q, none⟩ := by
  unfold readAddr
  rw [strip_same _ (by
    intro c hc
    rcases List.mem_append.1 hc with hc | hc
    · exact (file_scheme.2.2 c hc).2
    · rcases List.mem_cons.1 hc with rfl | hc
      · decide
      · exact (hm c hc).1), cutMarks_calm sFile m file_scheme.1 file_scheme.2.1 (fun c hc => (file_scheme.2.2 c hc).1) hm]
  unfold readCuts
  rw [if_pos (show sFile ≠ [] by decide)]
  have e : (base.bind fun b => if b.scheme = sFile ∧ special sFile = true then some b else none) = base := by
    cases base with
    | none => rfl
    | some b =>
      show (if b.scheme = sFile ∧ special sFile = true then some b else none) = _
      rw [if_pos ⟨hb b rfl, by decide +kernel⟩]
  show readMarked H sFile m none none _ = _
  rw [e]
  unfold readMarked
  rw [even_same sFile m (fun c hc => (hm c hc).2.2.2)]
  show (match readMiddle H sFile m none base with | .error e => (Except.error e : Except Int Adr) | .ok (a, w, q2) => .ok ⟨sFile, a, w, q2, none⟩) = _
  unfold readMiddle
  rw [if_pos rfl]

theorem segs_file (x : Bs) (ps : List Bs) (hx : ∀ c ∈ x, c ≠ 47) (hp : ∀ p ∈ ps, ∀ c ∈ p, c ≠ 47) : readWay sFile [] (47 :: (x ++ tellSegs ps)) = ⟨false, [], segLoop sFile [] (x :: ps)⟩ := by
  unfold readWay readSegs
  rw [if_neg (by simp)]
  show (⟨false, [], segLoop sFile [] (splitOn 47 (x ++ tellSegs ps))⟩ : Way) = _
  rw [splitOn_tell ps x hx hp]

/-- A great letter. -/
def greatB (c : UInt8) : Prop := 65 ≤ c.toNat ∧ c.toNat ≤ 90
theorem great_ne (c : UInt8) (h : greatB c) (k : Nat) (hk : k < 65 ∨ 90 < k) (hk2 : k < 256) : c ≠ k.toUInt8 := by
  intro e
  rw [e] at h
  have : (k.toUInt8).toNat = k := by rw [show k.toUInt8.toNat = k % 256 from rfl]; omega
  obtain ⟨h1, h2⟩ := h
  omega
theorem great_calm (c : UInt8) (h : greatB c) : calmB c := ⟨by have := h.1; omega, great_ne c h 35 (by omega) (by omega), great_ne c h 63 (by omega) (by omega), great_ne c h 92 (by omega) (by omega)⟩
theorem great_letter (c : UInt8) (h : greatB c) : isLetter c = true := by
  unfold isLetter
  rw [decide_eq_true h.1, decide_eq_true h.2]
  rfl
theorem drive_is (c b : UInt8) (h : greatB c) (hb : b = 58 ∨ b = 124) : isDrive [c, b] = true := by
  show (isLetter c && (b == 58 || b == 124)) = true
  rw [great_letter c h]
  rcases hb with rfl | rfl <;> rfl
theorem drive_dots (c b : UInt8) (h : greatB c) : dots [c, b] = 0 := by
  have h1 : c ≠ 37 := great_ne c h 37 (by omega) (by omega)
  have h2 : c ≠ 46 := great_ne c h 46 (by omega) (by omega)
  have e : lowDots [c, b] = c :: lowDots [b] := by
    rw [lowDots]
    intro l hl
    exact absurd hl h1
  unfold dots
  rw [e]
  simp [h1, h2]
theorem drive_told (c : UInt8) (h : greatB c) : toldDrive [c, 58] = true := by
  unfold toldDrive
  rw [drive_is c 58 h (Or.inl rfl)]
  rfl
theorem segLoop_drive (c b : UInt8) (h : greatB c) (hb : b = 58 ∨ b = 124) (ps : List Bs) : segLoop sFile [] ([c, b] :: ps) = segLoop sFile [[c, 58]] ps := by
  rw [segLoop, if_pos (drive_dots c b h)]
  unfold tellSeg
  rw [drive_is c b h hb]
  rfl
theorem up_drive (c : UInt8) (h : greatB c) (l : List Bs) : withoutLast sFile ([c, 58] :: l) = [c, 58] :: l.dropLast := by
  unfold withoutLast
  cases l with
  | nil => rw [if_pos ⟨rfl, rfl, drive_told c h⟩]; rfl
  | cons x l => rw [if_neg (by simp)]; rfl
theorem ups_drive (c : UInt8) (h : greatB c) (r : List Bs) (hr : r ≠ []) : ∀ (n : Nat) (l : List Bs), segLoop sFile ([c, 58] :: l) (List.replicate n [46, 46] ++ r) = segLoop sFile ([c, 58] :: l.take (l.length - n)) r
  | 0, l => by simp
  | n + 1, l => by
    rw [List.replicate_succ, List.cons_append, segLoop_up sFile [46, 46] (by decide +kernel) _ (by cases n <;> simp [hr, List.replicate_succ]), up_drive c h, ups_drive c h r hr n l.dropLast, List.length_dropLast, List.dropLast_eq_take, List.take_take]
    congr 3
    omega

def wEnd : Bs := [101, 110, 100]
theorem wEnd_word : wordB wEnd := ⟨by decide, by unfold smallB; decide +kernel⟩
theorem calm_list (l : List Bs) (h : ∀ p ∈ l, wordB p) : ∀ p ∈ l ++ [wEnd], wordB p := by
  intro p hp
  rcases List.mem_append.1 hp with hp | hp
  · exact h p hp
  · simp at hp; subst hp; exact wEnd_word

theorem segLoop_words (s : Bs) (l segs : List Bs) (h : ∀ p ∈ l, wordB p) : segLoop s segs l = segs ++ l := by
  have := segLoop_stays s [] l segs (fun p hp => stays_word s p (h p hp))
  rw [List.append_nil] at this
  rw [this]
  rfl

section
variable (H : Bs → Bool → Option Bs)

def fileAddr (h : Bs) (segs : List Bs) : Adr := ⟨sFile, fileAuth h, ⟨false, [], segs⟩, none, none⟩
theorem tell_file (h : Bs) (segs : List Bs) : tellAddr (fileAddr h segs) = sFile ++ 58 :: 47 :: 47 :: (h ++ tellSegs segs) := by
  unfold tellAddr fileAddr fileAuth guardB tellAuth tellLogin tellPlace tellWay
  simp [tellOpt]

/-- Three slashes ahead. -/
theorem read_three (x : Bs) (ps : List Bs) (hx : ∀ c ∈ x, calmB c) (hx2 : ∀ c ∈ x, c ≠ 47) (hp : ∀ p ∈ ps, ∀ c ∈ p, calmB c) (hp2 : ∀ p ∈ ps, ∀ c ∈ p, c ≠ 47) :
    readAddr H (sFile ++ 58 :: 47 :: 47 :: 47 :: (x ++ tellSegs ps)) none = .ok (fileAddr [] (segLoop sFile [] (x :: ps))) := by
  have c47 : calmB 47 := ⟨by decide, by decide, by decide, by decide⟩
  rw [read_file H _ none (by
    intro c hc
    simp only [List.mem_cons, List.mem_append] at hc
    rcases hc with rfl | rfl | rfl | hc | hc
    · exact c47
    · exact c47
    · exact c47
    · exact hx c hc
    · exact calm_segs ps hp c hc) (fun _ h => by cases h)]
  have e : readFile H (47 :: 47 :: 47 :: (x ++ tellSegs ps)) none none = .ok (fileAuth [], readWay sFile [] (47 :: (x ++ tellSegs ps)), none) := by
    unfold readFile
    rw [if_pos (show [47, 47].isPrefixOf (47 :: 47 :: 47 :: (x ++ tellSegs ps)) = true by simp [List.isPrefixOf])]
    show (if isDrive (cutSlash ([] ++ 47 :: (x ++ tellSegs ps))).1 = true then _ else _) = _
    rw [cutSlash_at [] _ (by simp), if_neg (show ¬ isDrive [] = true by decide)]
    rfl
  rw [e, segs_file x ps hx2 hp2]
  rfl

theorem drives_a (c : UInt8) (hc : greatB c) (l : List Bs) (hl : ∀ p ∈ l, wordB p) (n : Nat) :
    readAddr H (sFile ++ 58 :: 47 :: 47 :: 47 :: ([c, 124] ++ tellSegs (l ++ (List.replicate n [46, 46] ++ [wEnd])))) none = .ok (fileAddr [] ([c, 58] :: (l.take (l.length - n) ++ [wEnd]))) := by
  have hw : ∀ p ∈ l ++ (List.replicate n [46, 46] ++ [wEnd]), wordB p ∨ p = [46, 46] := by
    intro p hp
    simp only [List.mem_append, List.mem_replicate, List.mem_singleton] at hp
    rcases hp with hp | ⟨_, rfl⟩ | rfl
    · exact Or.inl (hl p hp)
    · exact Or.inr rfl
    · exact Or.inl wEnd_word
  rw [read_three H [c, 124] _ (by
    intro x hx
    simp at hx
    rcases hx with rfl | rfl
    · exact great_calm _ hc
    · exact ⟨by decide, by decide, by decide, by decide⟩) (by
    intro x hx
    simp at hx
    rcases hx with rfl | rfl
    · exact great_ne _ hc 47 (by omega) (by omega)
    · decide) (by
    intro p hp
    rcases hw p hp with h | rfl
    · exact word_calm p h
    · intro x hx
      simp at hx
      subst hx
      exact ⟨by decide, by decide, by decide, by decide⟩) (by
    intro p hp
    rcases hw p hp with h | rfl
    · exact word_slash p h
    · intro x hx
      simp at hx
      subst hx
      decide)]
  rw [segLoop_drive c 124 hc (Or.inr rfl), segLoop_stays sFile _ l _ (fun p hp => stays_word sFile p (hl p hp))]
  show Except.ok (fileAddr [] (segLoop sFile ([c, 58] :: l) _)) = _
  rw [ups_drive c hc [wEnd] (by simp) n l, segLoop_words sFile [wEnd] _ (by intro p hp; simp at hp; subst hp; exact wEnd_word)]
  rfl
theorem read_drive (c : UInt8) (hc : greatB c) (l : List Bs) (hl : ∀ p ∈ l, wordB p) :
    readAddr H (sFile ++ 58 :: 47 :: 47 :: 47 :: ([c, 58] ++ tellSegs (l ++ [wEnd]))) none = .ok (fileAddr [] ([c, 58] :: (l ++ [wEnd]))) := by
  have hw := calm_list l hl
  rw [read_three H [c, 58] _ (by
    intro x hx
    simp at hx
    rcases hx with rfl | rfl
    · exact great_calm _ hc
    · exact ⟨by decide, by decide, by decide, by decide⟩) (by
    intro x hx
    simp at hx
    rcases hx with rfl | rfl
    · exact great_ne _ hc 47 (by omega) (by omega)
    · decide) (fun p hp => word_calm p (hw p hp)) (fun p hp => word_slash p (hw p hp)), segLoop_drive c 58 hc (Or.inl rfl), segLoop_words sFile _ _ hw]
  rfl
theorem drives_b (c : UInt8) (hc : greatB c) (l : List Bs) (hl : ∀ p ∈ l, wordB p) :
    readAddr H (sFile ++ 58 :: ([c, 58] ++ tellSegs (l ++ [wEnd]))) none = .ok (fileAddr [] ([c, 58] :: (l ++ [wEnd]))) := by
  have hw := calm_list l hl
  have c58 : calmB 58 := ⟨by decide, by decide, by decide, by decide⟩
  have h47 : c ≠ 47 := great_ne c hc 47 (by omega) (by omega)
  rw [read_file H _ none (by
    intro x hx
    simp only [List.mem_cons, List.mem_append, List.not_mem_nil, or_false] at hx
    rcases hx with (rfl | rfl) | hx
    · exact great_calm _ hc
    · exact c58
    · exact calm_segs _ (fun p hp => word_calm p (hw p hp)) x hx) (fun _ h => by cases h)]
  have e : readFile H ([c, 58] ++ tellSegs (l ++ [wEnd])) none none = .ok (fileAuth [], readWay sFile [] ([c, 58] ++ tellSegs (l ++ [wEnd])), none) := by
    unfold readFile
    rw [if_neg (by simp [List.isPrefixOf])]
  have e2 : readWay sFile [] ([c, 58] ++ tellSegs (l ++ [wEnd])) = ⟨false, [], segLoop sFile [] ([c, 58] :: (l ++ [wEnd]))⟩ := by
    unfold readWay readSegs
    rw [if_neg (by simp)]
    have et : trimSlash ([c, 58] ++ tellSegs (l ++ [wEnd])) = [c, 58] ++ tellSegs (l ++ [wEnd]) := by
      unfold trimSlash
      split
      · rename_i heq
        cases heq
        exact absurd rfl h47
      · rfl
    rw [et, splitOn_tell _ [c, 58] (by
      intro x hx
      simp at hx
      rcases hx with rfl | rfl
      · exact h47
      · decide) (fun p hp => word_slash p (hw p hp))]
  rw [e, e2, segLoop_drive c 58 hc (Or.inl rfl), segLoop_words sFile _ _ hw]
  rfl

/-- Two slashes and a host. -/
theorem read_host (x h : Bs) (ps : List Bs) (hx : ∀ c ∈ x, calmB c) (hx2 : ∀ c ∈ x, c ≠ 47) (hd : isDrive x = false) (hh : fileHost H x = some h) (hp : ∀ p ∈ ps, wordB p) (hpn : ps ≠ []) :
    readAddr H (sFile ++ 58 :: 47 :: 47 :: (x ++ tellSegs ps)) none = .ok (fileAddr h ps) := by
  have c47 : calmB 47 := ⟨by decide, by decide, by decide, by decide⟩
  rw [read_file H _ none (by
    intro c hc
    simp only [List.mem_cons, List.mem_append] at hc
    rcases hc with rfl | rfl | hc | hc
    · exact c47
    · exact c47
    · exact hx c hc
    · exact calm_segs ps (fun p hq => word_calm p (hp p hq)) c hc) (fun _ h => by cases h)]
  match ps, hpn, hp with
  | p :: ps, _, hp =>
    have e : readFile H (47 :: 47 :: (x ++ tellSegs (p :: ps))) none none = .ok (fileAuth h, readWay sFile [] (47 :: (p ++ tellSegs ps)), none) := by
      unfold readFile
      rw [if_pos (show [47, 47].isPrefixOf (47 :: 47 :: (x ++ tellSegs (p :: ps))) = true by simp [List.isPrefixOf])]
      show (if isDrive (cutSlash (x ++ 47 :: (p ++ tellSegs ps))).1 = true then _ else match fileHost H (cutSlash (x ++ 47 :: (p ++ tellSegs ps))).1 with | none => _ | some h => Except.ok (fileAuth h, readWay sFile [] (cutSlash (x ++ 47 :: (p ++ tellSegs ps))).2, none)) = _
      rw [cutSlash_at x _ hx2, if_neg (by simp [hd]), hh]
    rw [e, segs_file p ps (word_slash p (hp p (by simp))) (fun q hq => word_slash q (hp q (by simp [hq]))), segLoop_words sFile (p :: ps) [] hp]
    rfl

theorem drives_e (c : UInt8) (hc : greatB c) (l : List Bs) :
    readAddr H [47, 120] (some (fileAddr [] ([c, 58] :: (l ++ [wEnd])))) = .ok (fileAddr [] [[c, 58], [120]]) := by
  have e : readAddr H [47, 120] (some (fileAddr [] ([c, 58] :: (l ++ [wEnd])))) = readCuts H ⟨[], [47, 120], none, none⟩ (some (fileAddr [] ([c, 58] :: (l ++ [wEnd])))) := by
    unfold readAddr
    rw [show cutMarks (stripB [47, 120]) = ⟨[], [47, 120], none, none⟩ by kernel_rfl]
  rw [e]
  unfold readCuts
  rw [if_neg (by simp)]
  show readMarked H sFile [47, 120] none none (some _) = _
  unfold readMarked
  rw [show evenSlashes sFile [47, 120] = [47, 120] by decide +kernel]
  unfold readMiddle
  rw [if_pos rfl]
  have e2 : readFile H [47, 120] (Option.map (esc (querySet sFile)) none) (some (fileAddr [] ([c, 58] :: (l ++ [wEnd])))) = .ok (fileAuth [], readWay sFile [[c, 58]] [47, 120], none) := by
    unfold readFile
    rw [if_neg (by decide)]
    show (if isDrive (cutSlash (trimSlash [47, 120])).1 = true then _ else _) = _
    rw [show isDrive (cutSlash (trimSlash [47, 120])).1 = false by decide +kernel, if_neg (by decide), if_pos (show ([47, 120] : Bs).head? = some 47 from rfl)]
    have e3 : driveOf ([c, 58] :: (l ++ [wEnd])) = [[c, 58]] := by
      unfold driveOf
      rw [if_pos ⟨by simp, drive_told c hc⟩]
      rfl
    show Except.ok (fileAuth [], readWay sFile (driveOf ([c, 58] :: (l ++ [wEnd]))) [47, 120], none) = _
    rw [e3]
  rw [e2]
  have e4 : readSegs sFile [[c, 58]] [47, 120] = [[c, 58], [120]] := by
    unfold readSegs
    rw [if_neg (by simp), show splitOn 47 (trimSlash [47, 120]) = [[120]] by decide +kernel, segLoop_words sFile [[120]] _ (by
      intro p hp
      simp at hp
      subst hp
      exact ⟨by decide, by unfold smallB; decide +kernel⟩)]
    rfl
  show Except.ok (⟨sFile, fileAuth [], ⟨false, [], readSegs sFile [[c, 58]] [47, 120]⟩, none, none⟩ : Adr) = _
  rw [e4]
  rfl
theorem drives_f (c : UInt8) (hc : greatB c) (h : Bs) (segs : List Bs) :
    readAddr H [c, 124, 47, 121] (some (fileAddr h segs)) = .ok (fileAddr h [[c, 58], [121]]) := by
  have h58 : c ≠ 58 := great_ne c hc 58 (by omega) (by omega)
  have h35 : c ≠ 35 := great_ne c hc 35 (by omega) (by omega)
  have h63 : c ≠ 63 := great_ne c hc 63 (by omega) (by omega)
  have h92 : c ≠ 92 := great_ne c hc 92 (by omega) (by omega)
  have h47 : c ≠ 47 := great_ne c hc 47 (by omega) (by omega)
  have e : readAddr H [c, 124, 47, 121] (some (fileAddr h segs)) = readCuts H ⟨[], [c, 124, 47, 121], none, none⟩ (some (fileAddr h segs)) := by
    unfold readAddr
    rw [strip_same _ (by
      intro x hx
      simp at hx
      rcases hx with rfl | rfl | rfl | rfl
      · have := hc.1; omega
      · decide
      · decide
      · decide)]
    have e1 : cutScheme [c, 124, 47, 121] = ([], [c, 124, 47, 121]) := by
      unfold cutScheme
      rw [cutB_none 58 _ (by simp [h58])]
    have e2 : cutOpt 35 [c, 124, 47, 121] = ([c, 124, 47, 121], none) := by unfold cutOpt; rw [cutB_none 35 _ (by simp [h35])]
    have e3 : cutOpt 63 [c, 124, 47, 121] = ([c, 124, 47, 121], none) := by unfold cutOpt; rw [cutB_none 63 _ (by simp [h63])]
    unfold cutMarks
    rw [e1]
    show readCuts H ⟨[], (cutOpt 63 (cutOpt 35 [c, 124, 47, 121]).1).1, (cutOpt 63 (cutOpt 35 [c, 124, 47, 121]).1).2, (cutOpt 35 [c, 124, 47, 121]).2⟩ _ = _
    rw [e2, e3]
  rw [e]
  unfold readCuts
  rw [if_neg (by simp)]
  show readMarked H sFile [c, 124, 47, 121] none none (some _) = _
  unfold readMarked
  rw [even_same sFile _ (by simp [h92])]
  unfold readMiddle
  rw [if_pos rfl]
  have et : trimSlash [c, 124, 47, 121] = [c, 124, 47, 121] := by
    unfold trimSlash
    split
    · rename_i heq
      cases heq
      exact absurd rfl h47
    · rfl
  have hsl : ∀ x ∈ [c, (124 : UInt8)], x ≠ 47 := by simp [h47]
  have e2 : readFile H [c, 124, 47, 121] (Option.map (esc (querySet sFile)) none) (some (fileAddr h segs)) = .ok (fileAuth h, readWay sFile [] [c, 124, 47, 121], none) := by
    unfold readFile
    rw [if_neg (by simp [List.isPrefixOf])]
    show (if isDrive (cutSlash (trimSlash [c, 124, 47, 121])).1 = true then _ else _) = _
    rw [et, show cutSlash [c, 124, 47, 121] = ([c, 124], [47, 121]) from cutSlash_at [c, 124] [121] hsl, if_pos (drive_is c 124 hc (Or.inr rfl))]
    rfl
  rw [e2]
  have e4 : readSegs sFile [] [c, 124, 47, 121] = [[c, 58], [121]] := by
    unfold readSegs
    rw [if_neg (by simp), et, show splitOn 47 [c, 124, 47, 121] = [[c, 124], [121]] from splitOn_tell [[121]] [c, 124] hsl (by simp), segLoop_drive c 124 hc (Or.inr rfl), segLoop_words sFile [[121]] _ (by
      intro p hp
      simp at hp
      subst hp
      exact ⟨by decide, by unfold smallB; decide +kernel⟩)]
    rfl
  show Except.ok (⟨sFile, fileAuth h, ⟨false, [], readSegs sFile [] [c, 124, 47, 121]⟩, none, none⟩ : Adr) = _
  rw [e4]
  rfl
end
end Go.Moor
