/-
  Plain mathematics: what Drives asks of five addresses of files is what is told of them.
-/
import Derived.Test.YtkcnageeamappabGreatDoorJABeside2
import Derived.Test.YtkcnageeamappabGreatDoorJSPieces
import Derived.Test.YtkcnageeamappabGreatDoorJGKeep
import Derived.Test.YtkcnageeamappabGreatDoorJHLaws
import Derived.Test.YtkcnageeamappabGreatDoorJAWritten2
import Derived.Test.YtkcnageeamappabGreatDoorJATrim
import Derived.Test.YtkcnageeamappabGreatDoorJSxDots
import Derived.Test.YtkcnageeamappabGreatDoorJAMarked
import Derived.Test.YtkcnageeamappabGreatDoorJAFile2
import Derived.Test.YtkcnageeamappabGreatDoorJLaid2
namespace Go.Moor
open Go

theorem parse_is {t b : Bs} {a : Adr} (ht : t.length ≤ 2000) (hb : b.length ≤ 2000) (h : readBeside hostTell t b = .ok a) {want : Bs} (hw : tellAddr a = want) : parse hostTell t b = .ok want := by
  unfold parse
  rw [if_neg (by omega), h, ← hw]
theorem parse_small {t b r : Bs} (h : parse hostTell t b = .ok r) : t.length ≤ 2000 ∧ b.length ≤ 2000 := by
  unfold parse at h
  split at h
  · cases h
  · omega
theorem alone_is {t : Bs} {a : Adr} (h : readAddr hostTell t none = .ok a) : readBeside hostTell t [] = .ok a := by
  unfold readBeside
  rw [if_pos rfl, h]
theorem beside_is {t b : Bs} {a c : Adr} (hn : b ≠ []) (hb : readAddr hostTell b none = .ok c) (h : readAddr hostTell t (some c) = .ok a) : readBeside hostTell t b = .ok a := by
  unfold readBeside
  rw [if_neg hn, hb]
  exact h
theorem tellSegs_small (k : Nat) : ∀ (l : List Bs), (∀ p ∈ l, p.length ≤ k) → (tellSegs l).length ≤ (k + 1) * l.length
  | [], _ => by simp [tellSegs]
  | p :: l, h => by
    have h1 := tellSegs_small k l (fun q hq => h q (by simp [hq]))
    have h2 := h p (by simp)
    have e : tellSegs (p :: l) = 47 :: (p ++ tellSegs l) := rfl
    rw [e]
    simp only [List.length_cons, List.length_append, Nat.mul_add]
    omega

def tThree : Bs := [102, 105, 108, 101, 58, 47, 47, 47]
def tTwo : Bs := [102, 105, 108, 101, 58, 47, 47]
def tOne : Bs := [102, 105, 108, 101, 58]
def tLocal : Bs := [102, 105, 108, 101, 58, 47, 47, 76, 79, 67, 65, 76, 72, 79, 83, 84]
def tEnd : Bs := [47, 101, 110, 100]
def tHz : Bs := [102, 105, 108, 101, 58, 47, 47, 104, 47, 122]
def tH : Bs := [102, 105, 108, 101, 58, 47, 47, 104, 47]
/-- The text of n steps up. -/
def ups (n : Nat) : Bs := tellSegs (List.replicate n [46, 46])
theorem ups_next (n : Nat) : ups (n + 1) = ups n ++ [47, 46, 46] := by
  unfold ups
  rw [List.replicate_succ', tellSegs_app]
  rfl
theorem ups_len (n : Nat) : (ups n).length = 3 * n := by
  induction n with
  | zero => rfl
  | succ n ih => rw [ups_next, List.length_append, ih]; simp; omega

section
variable (c : UInt8) (hc : greatB c) (l : List Bs) (hl : ∀ p ∈ l, wordB p ∧ p.length ≤ 4) (hl4 : l.length ≤ 4)
include hc hl hl4
theorem drive1 (n : Nat) (hn : n ≤ 6) :
    parse hostTell (tThree ++ [c] ++ [124] ++ tellSegs l ++ ups n ++ tEnd) [] = .ok (tThree ++ [c] ++ [58] ++ tellSegs (l.take (l.length - n)) ++ tEnd) := by
  have h1 := drives_a hostTell c hc l (fun p hp => (hl p hp).1) n
  have e1 : tThree ++ [c] ++ [124] ++ tellSegs l ++ ups n ++ tEnd = sFile ++ 58 :: 47 :: 47 :: 47 :: ([c, 124] ++ tellSegs (l ++ (List.replicate n [46, 46] ++ [wEnd]))) := by
    rw [tellSegs_app, tellSegs_app]
    simp [tThree, sFile, ups, tEnd, tellSegs, wEnd]
  have hs := tellSegs_small 4 l (fun p hp => (hl p hp).2)
  have hu := ups_len n
  refine parse_is ?_ (by simp) (alone_is (by rw [e1]; exact h1)) ?_
  · simp only [List.length_append, hu, tThree, tEnd, List.length_cons, List.length_nil]; omega
  · rw [tell_file]
    rw [show ([c, 58] :: (l.take (l.length - n) ++ [wEnd]) : List Bs) = [[c, 58]] ++ (l.take (l.length - n) ++ [wEnd]) from rfl, tellSegs_app, tellSegs_app]
    simp [tThree, sFile, tEnd, tellSegs, wEnd]
theorem drive2 : parse hostTell (tOne ++ [c] ++ [58] ++ tellSegs l ++ tEnd) [] = .ok (tThree ++ [c] ++ [58] ++ tellSegs l ++ tEnd) := by
  have h1 := drives_b hostTell c hc l (fun p hp => (hl p hp).1)
  have e1 : tOne ++ [c] ++ [58] ++ tellSegs l ++ tEnd = sFile ++ 58 :: ([c, 58] ++ tellSegs (l ++ [wEnd])) := by
    rw [tellSegs_app]
    simp [tOne, sFile, tEnd, tellSegs, wEnd]
  have hs := tellSegs_small 4 l (fun p hp => (hl p hp).2)
  refine parse_is ?_ (by simp) (alone_is (by rw [e1]; exact h1)) ?_
  · simp only [List.length_append, tOne, tEnd, List.length_cons, List.length_nil]; omega
  · rw [tell_file]
    rw [show ([c, 58] :: (l ++ [wEnd]) : List Bs) = [[c, 58]] ++ (l ++ [wEnd]) from rfl, tellSegs_app, tellSegs_app]
    simp [tThree, sFile, tEnd, tellSegs, wEnd]
omit hc in
theorem drive3 : parse hostTell (tLocal ++ tellSegs l ++ tEnd) [] = .ok (tTwo ++ tellSegs l ++ tEnd) := by
  have hw := calm_list l (fun p hp => (hl p hp).1)
  have h1 := read_host hostTell [76, 79, 67, 65, 76, 72, 79, 83, 84] [] (l ++ [wEnd]) (by unfold calmB; decide +kernel) (by decide) (by decide +kernel) (by decide +kernel) hw (by simp)
  have e1 : tLocal ++ tellSegs l ++ tEnd = sFile ++ 58 :: 47 :: 47 :: ([76, 79, 67, 65, 76, 72, 79, 83, 84] ++ tellSegs (l ++ [wEnd])) := by
    rw [tellSegs_app]
    simp [tLocal, sFile, tEnd, tellSegs, wEnd]
  have hs := tellSegs_small 4 l (fun p hp => (hl p hp).2)
  refine parse_is ?_ (by simp) (alone_is (by rw [e1]; exact h1)) ?_
  · simp only [List.length_append, tLocal, tEnd, List.length_cons, List.length_nil]; omega
  · rw [tell_file, tellSegs_app]
    simp [tTwo, sFile, tEnd, tellSegs, wEnd]
theorem drive4 : parse hostTell [47, 120] (tThree ++ [c] ++ [58] ++ tellSegs l ++ tEnd) = .ok (tThree ++ [c] ++ [58, 47, 120]) := by
  have h1 := read_drive hostTell c hc l (fun p hp => (hl p hp).1)
  have e1 : tThree ++ [c] ++ [58] ++ tellSegs l ++ tEnd = sFile ++ 58 :: 47 :: 47 :: 47 :: ([c, 58] ++ tellSegs (l ++ [wEnd])) := by
    rw [tellSegs_app]
    simp [tThree, sFile, tEnd, tellSegs, wEnd]
  have hs := tellSegs_small 4 l (fun p hp => (hl p hp).2)
  refine parse_is (by decide) ?_ (beside_is (by simp [tThree]) (by rw [e1]; exact h1) (drives_e hostTell c hc l)) ?_
  · simp only [List.length_append, tThree, tEnd, List.length_cons, List.length_nil]; omega
  · rw [tell_file]
    simp [tThree, sFile, tellSegs]
theorem drive5 : parse hostTell ([c] ++ [124, 47, 121]) (tHz ++ tellSegs l) = .ok (tH ++ [c] ++ [58, 47, 121]) := by
  have hw : ∀ p ∈ [122] :: l, wordB p := by
    intro p hp
    rcases List.mem_cons.1 hp with rfl | hp
    · exact ⟨by decide, by unfold smallB; decide +kernel⟩
    · exact (hl p hp).1
  have h1 := read_host hostTell [104] [104] ([122] :: l) (by unfold calmB; decide +kernel) (by decide) (by decide +kernel) (by decide +kernel) hw (by simp)
  have e1 : tHz ++ tellSegs l = sFile ++ 58 :: 47 :: 47 :: ([104] ++ tellSegs ([122] :: l)) := by
    simp [tHz, sFile, tellSegs]
  have hs := tellSegs_small 4 l (fun p hp => (hl p hp).2)
  refine parse_is (by simp) ?_ (beside_is (by simp [tHz]) (by rw [e1]; exact h1) (drives_f hostTell c hc [104] ([122] :: l))) ?_
  · simp only [List.length_append, tHz, List.length_cons, List.length_nil]; omega
  · rw [tell_file]
    simp [tH, sFile, tellSegs]
end
end Go.Moor
/-
  Plain mathematics: what is told is read as itself, with any base or none, with blanks around it; its parts, put together, are it.
-/
namespace Go.Moor
open Go

theorem again_good {t b s : Bs} (h : parse hostTell t b = .ok s) : ∃ a, Good hostTell a ∧ s = tellAddr a := by
  unfold parse at h
  split at h
  · cases h
  · cases hr : readBeside hostTell t b with
    | error e => rw [hr] at h; cases h
    | ok a =>
      rw [hr] at h
      injection h with h
      exact ⟨a, good_beside hostTell hostLaws t b a hr, h.symm⟩
theorem again_one {a : Adr} (h : Good hostTell a) (hl : (tellAddr a).length ≤ 2000) : parse hostTell (tellAddr a) [] = .ok (tellAddr a) :=
  parse_is hl (by simp) (alone_is (read_good hostTell hostLaws a h none)) rfl
theorem again_two {a : Adr} (h : Good hostTell a) (hl : (tellAddr a).length ≤ 2000) (b : Bs) (hb : b.length ≤ 2000) : parse hostTell (tellAddr a) b = .ok (tellAddr a) ∨ parse hostTell (tellAddr a) b = .error 2 := by
  by_cases hn : b = []
  · left
    rw [hn]
    exact again_one h hl
  · cases hr : readAddr hostTell b none with
    | error e =>
      right
      unfold parse readBeside
      rw [if_neg (by omega), if_neg hn, hr]
    | ok c => exact Or.inl (parse_is hl hb (beside_is hn hr (read_good hostTell hostLaws a h (some c))) rfl)
theorem strip_blank (l : Bs) (h : ∀ c ∈ l, 33 ≤ c.toNat) (hn : l ≠ []) : stripB ([32, 9] ++ l ++ [10, 32]) = l := by
  unfold stripB
  rw [List.append_assoc, trimB_core [32, 9] l [10, 32] (by decide) (by decide) (fun x hx => blank_core x (h x (by
    cases l with
    | nil => cases hx
    | cons y l => simp at hx; subst hx; simp))) (fun x hx => blank_core x (h x (List.mem_of_getLast? hx)))]
  exact filter_core l h
theorem again_three {a : Adr} (h : Good hostTell a) (hl : (tellAddr a).length ≤ 1996) : parse hostTell ([32, 9] ++ tellAddr a ++ [10, 32]) [] = .ok (tellAddr a) := by
  have hb := tell_bytes hostTell hostLaws a h
  have hn : tellAddr a ≠ [] := by unfold tellAddr; simp
  have e : readAddr hostTell ([32, 9] ++ tellAddr a ++ [10, 32]) none = readAddr hostTell (tellAddr a) none := by
    unfold readAddr
    rw [strip_blank _ (fun c hc => (hb c hc).1) hn, strip_same _ (fun c hc => (hb c hc).1)]
  refine parse_is ?_ (by simp) (alone_is (by rw [e]; exact read_good hostTell hostLaws a h none)) rfl
  simp only [List.length_append, List.length_cons, List.length_nil]
  omega
/-- When two slashes stand ahead of a path. -/
def twoAhead (p : Bs) : Bool := decide (1 < p.length) && (p.take 2 == [47, 47])
theorem guard_ahead {a : Adr} (h : Good hostTell a) : guardB a = if a.auth.has = false ∧ twoAhead (tellWay a.way) = true then [47, 46] else [] := by
  unfold guardB
  by_cases hh : a.auth.has = false
  · by_cases ho : a.way.opaq = true
    · obtain ⟨_, h2, _, h4⟩ := h.opaq ho
      rw [if_neg (by rw [h2]; simp), if_neg]
      rintro ⟨_, h5⟩
      unfold twoAhead tellWay at h5
      rw [if_pos ho] at h5
      cases ht : a.way.text with
      | nil => rw [ht] at h5; simp at h5
      | cons c r =>
        rw [ht] at h5 h4
        simp at h5 h4
        exact h4 h5.2.1
    · have e : (1 < a.way.segs.length ∧ a.way.segs.head? = some []) ↔ twoAhead (tellWay a.way) = true := by
        unfold twoAhead tellWay
        rw [if_neg ho]
        have hs := h.seg
        match hsg : a.way.segs with
        | [] => simp [tellSegs]
        | [p] =>
          rw [hsg] at hs
          have h1 := (hs p (by simp)).2
          cases p with
          | nil => simp [tellSegs]
          | cons c p =>
            have := (h1 c (by simp)).2.1
            simp [tellSegs, this]
        | p :: q :: r =>
          rw [hsg] at hs
          have h1 := (hs p (by simp)).2
          cases p with
          | nil => simp [tellSegs]
          | cons c p =>
            have := (h1 c (by simp)).2.1
            simp [tellSegs, this]
      by_cases hg : twoAhead (tellWay a.way) = true
      · rw [if_pos ⟨hh, e.2 hg⟩, if_pos ⟨hh, hg⟩]
      · rw [if_neg (fun x => hg (e.1 x.2)), if_neg (fun x => hg x.2)]
  · rw [if_neg (fun x => hh x.1), if_neg (fun x => hh x.1)]
end Go.Moor
/-
  Plain mathematics: what is refused has a number that is not nought.
-/
namespace Go.Moor
open Go
variable (H : Bs → Bool → Option Bs)
theorem readAuth_err (t s : Bs) (e : Int) (h : readAuth H t s = .error e) : e ≠ 0 := by
  unfold readAuth at h
  simp only at h
  split at h
  · injection h with h; omega
  · split at h
    · injection h with h; omega
    · cases h
theorem fromAuth_err (s t : Bs) (e : Int) (h : fromAuth H s t = .error e) : e ≠ 0 := by
  unfold fromAuth at h
  simp only at h
  cases hr : readAuth H (cutSlash t).1 s with
  | error n => rw [hr] at h; injection h with h; subst h; exact readAuth_err H _ _ _ hr
  | ok x => rw [hr] at h; cases h
theorem readFile_err (m : Bs) (q : Option Bs) (b : Option Adr) (e : Int) (h : readFile H m q b = .error e) : e ≠ 0 := by
  unfold readFile at h
  split at h
  · simp only at h
    split at h
    · cases h
    · split at h
      · injection h with h; omega
      · cases h
  · split at h
    · cases h
    · split at h
      · cases h
      · split at h
        · cases h
        · cases h
theorem readRelative_err (s m : Bs) (q : Option Bs) (b : Adr) (e : Int) (h : readRelative H s m q b = .error e) : e ≠ 0 := by
  unfold readRelative at h
  split at h
  · cases hr : fromAuth H s (if special s = true then trimSlashes (m.drop 2) else m.drop 2) with
    | error n => rw [hr] at h; injection h with h; subst h; exact fromAuth_err H _ _ _ hr
    | ok x => rw [hr] at h; cases h
  · split at h
    · cases h
    · cases h
theorem readOther_err (s m : Bs) (e : Int) (h : readOther H s m = .error e) : e ≠ 0 := by
  unfold readOther at h
  split at h
  · exact fromAuth_err H _ _ _ h
  · split at h
    · cases h
    · cases h
theorem readMiddle_err (s m : Bs) (q : Option Bs) (b : Option Adr) (e : Int) (h : readMiddle H s m q b = .error e) : e ≠ 0 := by
  unfold readMiddle at h
  split at h
  · exact readFile_err H _ _ _ _ h
  · split at h
    · exact readRelative_err H _ _ _ _ _ h
    · split at h
      · rename_i n hr
        injection h with h
        subst h
        split at hr
        · exact fromAuth_err H _ _ _ hr
        · exact readOther_err H _ _ _ hr
      · cases h
theorem readMarked_err (s m : Bs) (q f : Option Bs) (b : Option Adr) (e : Int) (h : readMarked H s m q f b = .error e) : e ≠ 0 := by
  unfold readMarked at h
  split at h
  · rename_i n hr
    injection h with h
    subst h
    exact readMiddle_err H _ _ _ _ _ hr
  · cases h
theorem readCuts_err (c : Cuts) (b : Option Adr) (e : Int) (h : readCuts H c b = .error e) : e ≠ 0 := by
  unfold readCuts at h
  split at h
  · exact readMarked_err H _ _ _ _ _ _ h
  · split at h
    · injection h with h; omega
    · split at h
      · split at h
        · cases h
        · injection h with h; omega
      · exact readMarked_err H _ _ _ _ _ _ h
theorem parse_err (t b : Bs) (e : Int) (h : parse H t b = .error e) : e ≠ 0 := by
  unfold parse at h
  split at h
  · injection h with h; omega
  · unfold readBeside at h
    split at h
    · rename_i n hr
      injection h with h
      subst h
      split at hr
      · exact readCuts_err H _ _ _ hr
      · split at hr
        · injection hr with hr; omega
        · exact readCuts_err H _ _ _ hr
    · cases h
end Go.Moor
/-
  Plain mathematics: what Given asks of an address with another part.
-/
namespace Go.Moor
open Go

theorem login_user (a : Auth) : a.user.Sublist (tellLogin a) := by
  unfold tellLogin
  split
  · exact List.sublist_append_left _ _
  · split
    · exact List.sublist_append_left _ _
    · rename_i h
      have : a.user = [] := Classical.byContradiction h
      rw [this]
      exact List.nil_sublist _
theorem login_pass (a : Auth) : a.pass.Sublist (tellLogin a) := by
  unfold tellLogin
  split
  · exact ((List.sublist_append_left a.pass [64]).trans (List.sublist_cons_self 58 _)).trans (List.sublist_append_right _ _)
  · rename_i h
    have : a.pass = [] := Classical.byContradiction h
    rw [this]
    exact List.nil_sublist _
theorem place_host (a : Auth) : a.host.Sublist (tellPlace a) := by
  unfold tellPlace
  split
  · exact List.Sublist.refl _
  · exact List.sublist_append_left _ _
theorem place_port (a : Auth) (h : a.port ≠ -1) : (decB a.port).Sublist (tellPlace a) := by
  unfold tellPlace
  rw [if_neg h]
  exact (List.sublist_cons_self 58 _).trans (List.sublist_append_right _ _)
theorem auth_sub (a : Auth) (x : Bs) (hh : a.has = true) (h : x.Sublist (tellLogin a) ∨ x.Sublist (tellPlace a)) : x.Sublist (tellAuth a) := by
  unfold tellAuth
  rw [if_pos hh]
  refine List.Sublist.trans ?_ ((List.sublist_cons_self 47 _).trans (List.sublist_cons_self 47 _))
  rcases h with h | h
  · exact h.trans (List.sublist_append_left _ _)
  · exact h.trans (List.sublist_append_right _ _)
theorem tell_auth (a : Adr) : (tellAuth a.auth).Sublist (tellAddr a) := by
  unfold tellAddr
  exact ((List.sublist_append_left _ _).trans (List.sublist_cons_self 58 _)).trans (List.sublist_append_right _ _)
theorem tell_way (a : Adr) : (tellWay a.way).Sublist (tellAddr a) := by
  unfold tellAddr
  exact (((((List.sublist_append_left _ _).trans (List.sublist_append_right (guardB a) _)).trans (List.sublist_append_right (tellAuth a.auth) _)).trans (List.sublist_cons_self 58 _)).trans (List.sublist_append_right _ _))

theorem partText_sub (a : Adr) (h : Good hostTell a) (n : Int) : (partText a n).Sublist (tellAddr a) := by
  have hn : a.auth.has = false → a.auth = noAuth := h.bare
  unfold partText
  split
  · unfold tellAddr
    exact List.sublist_append_left _ _
  · split
    · cases hh : a.auth.has with
      | true => exact (auth_sub _ _ hh (Or.inl (login_user _))).trans (tell_auth a)
      | false => rw [hn hh]; exact List.nil_sublist _
    · split
      · cases hh : a.auth.has with
        | true => exact (auth_sub _ _ hh (Or.inl (login_pass _))).trans (tell_auth a)
        | false => rw [hn hh]; exact List.nil_sublist _
      · split
        · cases hh : a.auth.has with
          | true => exact (auth_sub _ _ hh (Or.inr (place_host _))).trans (tell_auth a)
          | false => rw [hn hh]; exact List.nil_sublist _
        · split
          · split
            · rename_i hp
              cases hh : a.auth.has with
              | true => exact (auth_sub _ _ hh (Or.inr (place_port _ (by omega)))).trans (tell_auth a)
              | false => rw [hn hh] at hp; exact absurd hp (by decide)
            · exact List.nil_sublist _
          · exact tell_way a

theorem alone_good {t : Bs} {a : Adr} (h : readAlone hostTell t = .ok a) : Good hostTell a := by
  unfold readAlone at h
  split at h
  · cases h
  · exact good_read hostTell hostLaws t none (fun b hb => by cases hb) a h
theorem alone_err {t : Bs} {n : Int} (h : readAlone hostTell t = .error n) : n ≠ 0 := by
  unfold readAlone at h
  split at h
  · injection h with h; omega
  · unfold readAddr at h
    exact readCuts_err hostTell _ _ _ h
theorem setPart_err {a : Adr} {p : Int} {v : Bs} {n : Int} (h : setPart hostTell a p v = .error n) : n ≠ 0 := by
  unfold setPart at h
  split at h
  · unfold setScheme at h
    simp only at h
    split at h
    · injection h with h; omega
    · split at h
      · injection h with h; omega
      · cases h
  · split at h
    · unfold setBeside at h
      split at h
      · injection h with h; omega
      · split at h
        · cases h
        · split at h
          · cases h
          · split at h
            · injection h with h; omega
            · cases h
    · split at h
      · unfold setHost at h
        split at h
        · injection h with h; omega
        · split at h
          · injection h with h; omega
          · split at h
            · injection h with h; omega
            · cases h
      · split at h
        · unfold setPath at h
          split at h
          · injection h with h; omega
          · split at h
            · injection h with h; omega
            · cases h
        · split at h
          · cases h
          · split at h
            · cases h
            · injection h with h; omega
theorem withPart_err {t : Bs} {p : Int} {v : Bs} {n : Int} (h : withPart hostTell t p v = .error n) : n ≠ 0 := by
  unfold withPart at h
  split at h
  · injection h with h; omega
  · split at h
    · rename_i e he
      injection h with h
      subst h
      exact alone_err he
    · split at h
      · rename_i e he
        injection h with h
        subst h
        exact setPart_err he
      · cases h
theorem withPart_no {t : Bs} {p : Int} {v : Bs} {n : Int} (h : readAlone hostTell t = .error n) : ∃ m, withPart hostTell t p v = .error m ∧ m ≠ 0 := by
  unfold withPart
  split
  · exact ⟨1, rfl, by omega⟩
  · rw [h]
    exact ⟨n, rfl, alone_err h⟩
theorem withPart_ok {t : Bs} {p : Int} {v s : Bs} {a : Adr} (ha : readAlone hostTell t = .ok a) (h : withPart hostTell t p v = .ok s) : ∃ b, setPart hostTell a p (bareB v) = .ok b ∧ Good hostTell b ∧ s = tellAddr b := by
  unfold withPart at h
  split at h
  · cases h
  · rw [ha] at h
    simp only at h
    split at h
    · cases h
    · rename_i b hb
      injection h with h
      exact ⟨b, hb, setPart_good hostTell hostLaws a b p _ (alone_good ha) hb, h.symm⟩
theorem alone_told {b : Adr} (h : Good hostTell b) (hl : (tellAddr b).length ≤ 2000) : readAlone hostTell (tellAddr b) = .ok b := by
  unfold readAlone
  rw [if_neg (by omega)]
  exact read_good hostTell hostLaws b h none
theorem withPart_same {a b : Adr} {p : Int} {v : Bs} (ha : Good hostTell a) (h : setPart hostTell a p v = .ok b) (hp : 1 ≤ p ∧ p ≤ 6) (hl : (tellAddr b).length ≤ 2000) : withPart hostTell (tellAddr b) p (partText b p) = .ok (tellAddr b) := by
  have hb := setPart_good hostTell hostLaws a b p v ha h
  have hs := partText_sub b hb p
  have h1 : (partText b p).length ≤ 2000 := Nat.le_trans hs.length_le hl
  have h2 : bareB (partText b p) = partText b p := bareB_same _ fun c hc => (tell_bytes hostTell hostLaws b hb c (hs.subset hc)).1
  unfold withPart
  rw [if_neg (by omega), alone_told hb hl]
  simp only
  rw [h2, setPart_same hostTell hostLaws a b p v ha h hp]
end Go.Moor
/-
  What the variables hold that Address.With reads.
-/
namespace Go.Proofs
open Go.RowKit Go.Moor

structure Tryz.Env3 (w : World) : Prop where
  env2 : Tryz.Env2 w
  ePart : Tryz.Err 0 w
  eScheme : Tryz.Err 3 w
  eKind : Tryz.Err 4 w
  eBare : Tryz.Err 5 w
  eBeside : Tryz.Err 7 w
  eOpaq : Tryz.Err 6 w

theorem Tryz.Env3.below {w w' : World} (h : Tryz.Env3 w) (hb : Below w.heap.size w w') : Tryz.Env3 w' := by
  have hz := h.env2.env.size
  exact ⟨h.env2.below hb, h.ePart.below hb (by omega), h.eScheme.below hb (by omega), h.eKind.below hb (by omega), h.eBare.below hb (by omega), h.eBeside.below hb (by omega), h.eOpaq.below hb (by omega)⟩
/-- A fault with that number. -/
def Tryz.FaultOf (n : Int) (e : Ending) : Prop := ∃ (x y : ByteArray) (te : TypeId) (ve : Value), e = .returned (.iface 77 (.agg #[.int .i64 n, .string x, .string y, .iface te ve]))
theorem Tryz.errPart_any (x y : ByteArray) (te : TypeId) (ve : Value) (w : World) : Calls Tryz.prog 57 #[.string x, .string y, .iface te ve] w fun e w' => e = .returned (.iface 77 (.agg #[.int .i64 6, .string x, .string y, .iface te ve])) ∧ w' = w := by
  go_enter Tryz.func57, Tryz.ntmps57
  go_wp2
  go_ret
  exact ⟨rfl, rfl⟩

theorem trimMark_is (c : UInt8) (v : Bs) : Lib.trimPrefix v [c] = trimMark c v := by
  cases v with
  | nil => rfl
  | cons b l =>
    unfold Lib.trimPrefix trimMark Lib.hasPrefix
    by_cases h : b = c
    · simp [h]
    · have : ¬ c = b := fun e => h e.symm
      simp [h, this]
set_option maxHeartbeats 1000000 in
theorem Tryz.behindMark_any (v : Bs) (c : UInt8) (w : World) :
    Calls Tryz.prog 54 #[.string ⟨v.toArray⟩, .string ⟨#[c]⟩] w fun e w' => e = .returned (.agg #[.bool (!v.isEmpty), .string ⟨(trimMark c v).toArray⟩]) ∧ Below w.heap.size w w' := by
  have HT : Hid (∀ W, Calls Tryz.prog 90 #[.string ⟨v.toArray⟩, .string ⟨#[c]⟩] W fun e w' => e = .returned (.string ⟨(trimMark c v).toArray⟩) ∧ w' = W) := by
    intro W
    refine (Tryz.strings_TrimPrefix ⟨v.toArray⟩ ⟨#[c]⟩ W).mono ?_
    rintro e w' ⟨rfl, hw⟩
    refine ⟨?_, hw⟩
    rw [← trimMark_is]
  obtain ⟨W, hW⟩ : ∃ W, W = w.alloc (.cells #[.bool false, .string ⟨#[]⟩] 50) := ⟨_, rfl⟩
  have HBW : Hid (Below w.heap.size w W) := by
    show Below _ _ _
    rw [hW]
    exact (Below.refl _ _).alloc (Nat.le_refl _) _
  have hz : W.heap[w.heap.size]? = some (.cells #[.bool false, .string ⟨#[]⟩] 50 (0, 0)) := by rw [hW]; exact alloc_here w _ _
  have HZ : Hid (W.heap[w.heap.size]? = some (.cells #[.bool false, .string ⟨#[]⟩] 50 (0, 0))) := hz
  have d0 : W.cell? ⟨w.heap.size, 0, none⟩ = some (.bool false) := cell_heap hz 0
  have d1 : W.cell? ⟨w.heap.size, 1, none⟩ = some (.string ⟨#[]⟩) := cell_heap hz 1
  have f0 := frozen_heap hz 0
  have f1 := frozen_heap hz 1
  have hemp : (⟨v.toArray⟩ : ByteArray).toList.isEmpty = v.isEmpty := mk_empty v
  generalize v.isEmpty = q at *
  generalize (⟨(trimMark c v).toArray⟩ : ByteArray) = tm at *
  generalize (⟨v.toArray⟩ : ByteArray) = vb at *
  clear hz
  go_enter Tryz.func54, Tryz.ntmps54
  go_upto_region 1 with fail
  rw [← hW]
  clear hW
  go_wp2_with fail
  refine Calls.mono (HT.out _) ?_
  rintro e W0 ⟨rfl, hw0⟩
  have hw0 := hw0.symm
  subst hw0
  go_wp2
  have h2 := heap_setCell_same _ w.heap.size 1 _ 50 (.string tm) (heap_setCell_same W w.heap.size 0 _ 50 (.bool (!q)) HZ.out)
  refine bodyPost_ret (v := .agg #[.bool (!q), .string tm]) (results_cell_row rfl _ _ w.heap.size 50 _ (0, 0) _ rfl h2 Tryz.underlying50 rfl Tryz.sizeOptional) rfl ⟨rfl, ?_⟩
  exact (HBW.out.setCell (Nat.le_refl _) _).setCell (Nat.le_refl _) _
end Go.Proofs
/-
  What a row's list gives of all that the walks of With ask of the variables.
-/
namespace Go.Proofs.YtkcnageeamappabGreatDoor
open Go.ChangeShapes Go.WideShapes Go.ChangeAt Go.RowKit Go.Moor

/-- What every list of a law that gives parts holds beside those. -/
def partLaid : List (String × DataW Unit) := [("moor/address.errNoPart", Rows.laid_moor_address_errNoPart), ("moor/address.errNoScheme", Rows.laid_moor_address_errNoScheme), ("moor/address.errOtherKind", Rows.laid_moor_address_errOtherKind), ("moor/address.errBareHost", Rows.laid_moor_address_errBareHost), ("moor/address.errBeside", Rows.laid_moor_address_errBeside), ("moor/address.errOpaque", Rows.laid_moor_address_errOpaque)]
theorem env3_of_reads {W : World} (hp : ∀ x ∈ plainLaid, Lib.VarReads Tryz.prog W x.1 x.2) (hq : ∀ x ∈ needLaid, Lib.VarReads Tryz.prog W x.1 x.2) (hr : ∀ x ∈ partLaid, Lib.VarReads Tryz.prog W x.1 x.2) (hh : handlesMet Tryz.prog [("errors.errorType", Rows.laid_errors_errorType)] W) (hsh : W.ShapedOpen Tryz.prog) : Tryz.Env3 W :=
  ⟨env2_of_reads hp hq hh hsh,
    err_of_reads (by kernel_rfl) (by kernel_rfl) (hr ("moor/address.errNoPart", _) (by simp [partLaid]; rfl)), err_of_reads (by kernel_rfl) (by kernel_rfl) (hr ("moor/address.errNoScheme", _) (by simp [partLaid]; rfl)),
    err_of_reads (by kernel_rfl) (by kernel_rfl) (hr ("moor/address.errOtherKind", _) (by simp [partLaid]; rfl)), err_of_reads (by kernel_rfl) (by kernel_rfl) (hr ("moor/address.errBareHost", _) (by simp [partLaid]; rfl)),
    err_of_reads (by kernel_rfl) (by kernel_rfl) (hr ("moor/address.errBeside", _) (by simp [partLaid]; rfl)), err_of_reads (by kernel_rfl) (by kernel_rfl) (hr ("moor/address.errOpaque", _) (by simp [partLaid]; rfl))⟩
end Go.Proofs.YtkcnageeamappabGreatDoor
