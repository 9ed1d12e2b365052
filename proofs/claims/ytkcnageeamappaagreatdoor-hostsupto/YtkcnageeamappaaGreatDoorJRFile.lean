/-
  Plain mathematics of the other way to read an address, byte by byte with a state: the machine's steps, on lists of bytes; its authority is the one that is cut at its marks. What hosts are is handed in (H); no program is named here.
-/
import Derived.Test.YtkcnageeamappaaGreatDoorJSxDots
namespace Go.Moor
open Go

/-- What is asked of hosts with brackets. -/
structure HostMarks (H : Bs → Bool → Option Bs) : Prop where
  inner : ∀ a b sp, a ≠ [] → H (a ++ 91 :: b) sp = none
  close : ∀ x sp, x.head? = some 91 → (∀ c ∈ x, c ≠ 93) → H x sp = none
  empty : H [] true = none

-- the port's colon
def scanPort : Bool → Bs → Option (Bs × Bs)
  | _, [] => none
  | i, c :: l => if c = 58 ∧ i = false then some ([], l) else (scanPort (if c = 91 then true else if c = 93 then false else i) l).map fun p => (c :: p.1, p.2)
theorem scan_none : ∀ (l : Bs) (i : Bool), (∀ c ∈ l, c ≠ 58) → scanPort i l = none
  | [], _, _ => rfl
  | c :: l, i, h => by
    rw [scanPort, if_neg (fun x => h c (by simp) x.1), scan_none l _ (fun x hx => h x (by simp [hx]))]
    rfl
theorem scan_some (b : Bs) : ∀ (a : Bs), (∀ c ∈ a, c ≠ 58 ∧ c ≠ 91) → scanPort false (a ++ 58 :: b) = some (a, b)
  | [], _ => by simp [scanPort]
  | c :: a, h => by
    have hc := h c (by simp)
    show scanPort false (c :: (a ++ 58 :: b)) = _
    rw [scanPort, if_neg (fun x => hc.1 x.1), if_neg hc.2]
    have e : (if c = 93 then false else false) = false := by split <;> rfl
    rw [e, scan_some b a (fun x hx => h x (by simp [hx]))]
    rfl
theorem scan_in : ∀ (x r : Bs), (∀ c ∈ x, c ≠ 93) → scanPort true (x ++ 93 :: r) = (scanPort false r).map fun p => (x ++ 93 :: p.1, p.2)
  | [], r, _ => by simp [scanPort]
  | c :: x, r, h => by
    have hc := h c (by simp)
    show scanPort true (c :: (x ++ 93 :: r)) = _
    rw [scanPort, if_neg (fun y => by cases y.2)]
    have e : (if c = 91 then true else if c = 93 then false else true) = true := by
      rw [if_neg hc]; split <;> rfl
    rw [e, scan_in x r (fun y hy => h y (by simp [hy])), Option.map_map]
    rfl
theorem scan_stuck : ∀ (x : Bs), (∀ c ∈ x, c ≠ 93) → scanPort true x = none
  | [], _ => rfl
  | c :: x, h => by
    have hc := h c (by simp)
    rw [scanPort, if_neg (fun y => by cases y.2)]
    have e : (if c = 91 then true else if c = 93 then false else true) = true := by
      rw [if_neg hc]; split <;> rfl
    rw [e, scan_stuck x (fun y hy => h y (by simp [hy]))]
    rfl
/-- The host and the port, scanned. -/
def scanCut (t : Bs) : Bs × Option Bs := match scanPort false t with | some (h, p) => (h, some p) | none => (t, none)
theorem scan_open (b : Bs) : ∀ (a : Bs), (∀ c ∈ a, c ≠ 58) → ∀ i, ∃ y, (match scanPort i (a ++ 91 :: b) with | some (h, _) => h | none => a ++ 91 :: b) = a ++ 91 :: y
  | [], _, i => by
    show ∃ y, (match scanPort i (91 :: b) with | some (h, _) => h | none => 91 :: b) = 91 :: y
    rw [scanPort, if_neg (fun h => absurd h.1 (by decide))]
    cases scanPort (if (91 : UInt8) = 91 then true else if (91 : UInt8) = 93 then false else i) b with
    | none => exact ⟨b, rfl⟩
    | some p => exact ⟨p.1, rfl⟩
  | c :: a, h, i => by
    show ∃ y, (match scanPort i (c :: (a ++ 91 :: b)) with | some (h, _) => h | none => c :: (a ++ 91 :: b)) = c :: (a ++ 91 :: y)
    rw [scanPort, if_neg (fun x => h c (by simp) x.1)]
    obtain ⟨y, hy⟩ := scan_open b a (fun x hx => h x (by simp [hx])) (if c = 91 then true else if c = 93 then false else i)
    cases hs : scanPort (if c = 91 then true else if c = 93 then false else i) (a ++ 91 :: b) with
    | none => rw [hs] at hy; exact ⟨y, by rw [show a ++ 91 :: b = a ++ 91 :: y from hy]; rfl⟩
    | some p => rw [hs] at hy; exact ⟨y, congrArg (fun z => c :: z) (show p.1 = a ++ 91 :: y from hy)⟩
theorem first_of (c : UInt8) (l : Bs) : (∀ x ∈ l, x ≠ c) ∨ ∃ a b, l = a ++ c :: b ∧ ∀ x ∈ a, x ≠ c := by
  have := cutB_inv c l
  cases h : cutB c l with
  | none => rw [h] at this; exact Or.inl this
  | some p => rw [h] at this; exact Or.inr ⟨p.1, p.2, this.1, this.2⟩

section
variable (H : Bs → Bool → Option Bs)

def readAuthScan (t s : Bs) : Except Int Auth :=
  let lp := cutLogin t
  if t ≠ [] ∧ lp.2 = [] then .error 4
  else
    let up := cutOpt 58 lp.1
    let hp := scanCut lp.2
    if hp.1 = [] ∧ (hp.2.isSome ∨ special s = true) then .error 4
    else match H hp.1 (special s && decide (hp.1 ≠ [])) with
      | none => .error 4
      | some h => match readPort (hp.2.getD []) s with
        | none => .error 5
        | some p => .ok ⟨esc 5 up.1, esc 5 (up.2.getD []), true, h, p⟩

/-- The two cuts: the same, or no host either way. -/
theorem cut_scan (hm : HostMarks H) (t : Bs) : ((scanCut t).1 = (cutPort t).1 ∧ (scanCut t).2.getD [] = (cutPort t).2 ∧ ((scanCut t).2 = none → (scanCut t).1 = t)) ∨ ((scanCut t).1 ≠ [] ∧ (cutPort t).1 ≠ [] ∧ ∀ sp, H (scanCut t).1 sp = none ∧ H (cutPort t).1 sp = none) := by
  by_cases h91 : t.head? = some 91
  · obtain ⟨t2, rfl⟩ : ∃ t2, t = 91 :: t2 := by
      cases t with
      | nil => cases h91
      | cons c r => simp at h91; exact ⟨r, by rw [h91]⟩
    have hstep : scanPort false (91 :: t2) = (scanPort true t2).map fun p => (91 :: p.1, p.2) := by
      rw [scanPort, if_neg (fun h => absurd h.1 (by decide))]
      rfl
    rcases first_of 93 t2 with hn | ⟨x, r, rfl, hx⟩
    · -- no bracket at the end
      have hn' : ∀ c ∈ (91 :: t2 : Bs), c ≠ 93 := by
        intro c hc
        rcases List.mem_cons.1 hc with rfl | hc
        · decide
        · exact hn c hc
      have e1 : scanCut (91 :: t2) = (91 :: t2, none) := by
        unfold scanCut
        rw [hstep, scan_stuck t2 hn]
        rfl
      have e2 : brackets (91 :: t2) = 0 := by
        unfold brackets
        rw [if_pos (by rfl), cutB_none 93 _ hn']
      refine Or.inr ?_
      rw [e1]
      refine ⟨by simp, ?_⟩
      have e3 : (cutPort (91 :: t2)).1.head? = some 91 ∧ ∀ c ∈ (cutPort (91 :: t2)).1, c ≠ 93 := by
        unfold cutPort
        rw [e2]
        have hinv := cutB_inv 58 (List.drop 0 (91 :: t2))
        cases hc : cutB 58 (List.drop 0 (91 :: t2)) with
        | none => exact ⟨rfl, hn'⟩
        | some p =>
          rw [hc] at hinv
          have hi := hinv.1
          show (List.take 0 (91 :: t2) ++ p.1).head? = some 91 ∧ ∀ c ∈ List.take 0 (91 :: t2) ++ p.1, c ≠ 93
          rw [List.take_zero, List.nil_append]
          refine ⟨?_, fun c hc => hn' c (by rw [show (91 :: t2 : Bs) = List.drop 0 (91 :: t2) from rfl, hi]; exact List.mem_append_left _ hc)⟩
          cases hp : p.1 with
          | nil =>
            rw [hp] at hi
            injection hi with h1 _
            exact absurd h1 (by decide)
          | cons d q =>
            rw [hp] at hi
            injection hi with h1 _
            rw [← h1]
            rfl
      refine ⟨fun h => (by rw [h] at e3; cases e3.1), fun sp => ⟨hm.close _ sp rfl hn', hm.close _ sp e3.1 e3.2⟩⟩
    · have hx' : ∀ c ∈ (91 :: x : Bs), c ≠ 93 := by
        intro c hc
        rcases List.mem_cons.1 hc with rfl | hc
        · decide
        · exact hx c hc
      have e2 : brackets (91 :: (x ++ 93 :: r)) = x.length + 2 := by
        unfold brackets
        rw [if_pos (by rfl), show (91 :: (x ++ 93 :: r) : Bs) = (91 :: x) ++ 93 :: r from rfl, cutB_some 93 _ (91 :: x) hx']
        simp
      have e3 : scanPort false (91 :: (x ++ 93 :: r)) = (scanPort false r).map fun p => (91 :: (x ++ 93 :: p.1), p.2) := by
        rw [hstep, scan_in x r hx, Option.map_map]
        rfl
      have et : List.take (x.length + 2) (91 :: (x ++ 93 :: r)) = 91 :: (x ++ [93]) := by
        rw [show (91 :: (x ++ 93 :: r) : Bs) = (91 :: (x ++ [93])) ++ r from by simp, show x.length + 2 = (91 :: (x ++ [93]) : Bs).length from by simp, List.take_left]
      have ed : List.drop (x.length + 2) (91 :: (x ++ 93 :: r)) = r := by
        rw [show (91 :: (x ++ 93 :: r) : Bs) = (91 :: (x ++ [93])) ++ r from by simp, show x.length + 2 = (91 :: (x ++ [93]) : Bs).length from by simp, List.drop_left]
      rcases first_of 58 r with hn | ⟨a, b, rfl, ha⟩
      · refine Or.inl ?_
        unfold scanCut cutPort
        rw [e3, e2, ed, scan_none r false hn, cutB_none 58 r hn]
        exact ⟨rfl, rfl, fun _ => rfl⟩
      · rcases first_of 91 a with hn | ⟨a1, a2, rfl, ha1⟩
        · refine Or.inl ?_
          unfold scanCut cutPort
          rw [e3, e2, ed, et, scan_some b a (fun c hc => ⟨ha c hc, hn c hc⟩), cutB_some 58 b a ha]
          refine ⟨by simp, rfl, fun h => by cases h⟩
        · refine Or.inr ?_
          have hca : ∀ c ∈ a1, c ≠ 58 := fun c hc => ha c (by simp [hc])
          obtain ⟨y, hy⟩ := scan_open (a2 ++ 58 :: b) a1 hca false
          have hs1 : (scanCut (91 :: (x ++ 93 :: (a1 ++ 91 :: a2 ++ 58 :: b)))).1 = (91 :: (x ++ 93 :: a1)) ++ 91 :: y := by
            unfold scanCut
            rw [e3]
            have e4 : (a1 ++ 91 :: a2 ++ 58 :: b : Bs) = a1 ++ 91 :: (a2 ++ 58 :: b) := by simp
            rw [e4]
            cases hsc : scanPort false (a1 ++ 91 :: (a2 ++ 58 :: b)) with
            | none =>
              rw [hsc] at hy
              show 91 :: (x ++ 93 :: (a1 ++ 91 :: (a2 ++ 58 :: b))) = _
              rw [show a1 ++ 91 :: (a2 ++ 58 :: b) = a1 ++ 91 :: y from hy]
              simp
            | some p =>
              rw [hsc] at hy
              show 91 :: (x ++ 93 :: p.1) = _
              rw [show p.1 = a1 ++ 91 :: y from hy]
              simp
          have hs2 : (cutPort (91 :: (x ++ 93 :: (a1 ++ 91 :: a2 ++ 58 :: b)))).1 = (91 :: (x ++ 93 :: a1)) ++ 91 :: a2 := by
            unfold cutPort
            rw [e2, ed, et, cutB_some 58 b _ ha]
            simp
          rw [hs1, hs2]
          exact ⟨by simp, by simp, fun sp => ⟨hm.inner _ _ sp (by simp), hm.inner _ _ sp (by simp)⟩⟩
  · have e2 : brackets t = 0 := by unfold brackets; rw [if_neg h91]
    have ecp : cutPort t = match cutB 58 t with | some (a, b) => (a, b) | none => (t, []) := by
      unfold cutPort
      rw [e2]
      show (match cutB 58 t with | some (a, b) => ([] ++ a, b) | none => (t, [])) = _
      cases cutB 58 t <;> rfl
    rcases first_of 58 t with hn | ⟨a, b, rfl, ha⟩
    · refine Or.inl ?_
      unfold scanCut
      rw [ecp, scan_none t false hn, cutB_none 58 t hn]
      exact ⟨rfl, rfl, fun _ => rfl⟩
    · rcases first_of 91 a with hn | ⟨a1, a2, rfl, ha1⟩
      · refine Or.inl ?_
        unfold scanCut
        rw [ecp, scan_some b a (fun c hc => ⟨ha c hc, hn c hc⟩), cutB_some 58 b a ha]
        exact ⟨rfl, rfl, fun h => by cases h⟩
      · have hne : a1 ≠ [] := by
          rintro rfl
          exact h91 rfl
        have hca : ∀ c ∈ a1, c ≠ 58 := fun c hc => ha c (by simp [hc])
        obtain ⟨y, hy⟩ := scan_open (a2 ++ 58 :: b) a1 hca false
        have hs1 : (scanCut (a1 ++ 91 :: a2 ++ 58 :: b)).1 = a1 ++ 91 :: y := by
          unfold scanCut
          rw [show (a1 ++ 91 :: a2 ++ 58 :: b : Bs) = a1 ++ 91 :: (a2 ++ 58 :: b) from by simp]
          cases hsc : scanPort false (a1 ++ 91 :: (a2 ++ 58 :: b)) with
          | none => rw [hsc] at hy; exact hy
          | some p => rw [hsc] at hy; exact hy
        have hs2 : (cutPort (a1 ++ 91 :: a2 ++ 58 :: b)).1 = a1 ++ 91 :: a2 := by
          rw [ecp, cutB_some 58 b _ ha]
        rw [hs1, hs2]
        exact Or.inr ⟨by simp, by simp, fun sp => ⟨hm.inner _ _ sp hne, hm.inner _ _ sp hne⟩⟩

theorem auth_scan (hm : HostMarks H) (t s : Bs) : readAuthScan H t s = readAuth H t s := by
  unfold readAuthScan readAuth
  simp only
  by_cases h0 : t ≠ [] ∧ (cutLogin t).2 = []
  · rw [if_pos h0, h0.2]
    have : tellHost H (cutPort []).1 t s = none := by
      unfold tellHost
      rw [if_pos ⟨rfl, h0.1⟩]
    rw [this]
  · rw [if_neg h0]
    have hpl : (cutLogin t).2 = [] → t = [] := fun h => Classical.byContradiction fun h2 => h0 ⟨h2, h⟩
    rcases cut_scan H hm (cutLogin t).2 with ⟨e1, e2, e3⟩ | ⟨n1, n2, hn⟩
    · rw [← e1, ← e2]
      by_cases hh : (scanCut (cutLogin t).2).1 = []
      · by_cases hc : (scanCut (cutLogin t).2).2.isSome = true ∨ special s = true
        · rw [if_pos ⟨hh, hc⟩, hh]
          have : tellHost H [] t s = none := by
            unfold tellHost
            by_cases ht : t = []
            · rw [if_neg (fun x => x.2 ht)]
              rcases hc with hc | hc
              · subst ht; cases hc
              · rw [hc]; exact hm.empty
            · rw [if_pos ⟨rfl, ht⟩]
          rw [this]
        · rw [if_neg (fun x => hc x.2), hh]
          have hno : (scanCut (cutLogin t).2).2 = none := by
            cases hx : (scanCut (cutLogin t).2).2 with
            | none => rfl
            | some y => exact absurd (Or.inl (by rw [hx]; rfl)) hc
          have ht : t = [] := hpl (by rw [← e3 hno]; exact hh)
          have hsp : special s = false := by
            cases hs : special s with
            | false => rfl
            | true => exact absurd (Or.inr hs) hc
          have : tellHost H [] t s = H [] false := by
            unfold tellHost
            rw [if_neg (fun x => x.2 ht), hsp]
          rw [this, hsp]
          rfl
      · rw [if_neg (fun x => hh x.1)]
        have : tellHost H (scanCut (cutLogin t).2).1 t s = H (scanCut (cutLogin t).2).1 (special s) := by
          unfold tellHost
          rw [if_neg (fun x => hh x.1)]
        rw [this, show (special s && decide ((scanCut (cutLogin t).2).1 ≠ [])) = special s from by simp [hh]]
        rfl
    · rw [if_neg (fun x => n1 x.1)]
      have : tellHost H (cutPort (cutLogin t).2).1 t s = none := by
        unfold tellHost
        split
        · rfl
        · exact (hn _).2
      rw [this, (hn _).1]
end
end Go.Moor
/-
  Plain mathematics: the machine that reads an address with a state comes, from each of its states, to what is cut at its marks.
-/
namespace Go.Moor
open Go

def slashB (s : Bs) (c : UInt8) : Bool := c == 47 || (c == 92 && special s)
def markB (c : UInt8) : Bool := c == 63 || c == 35
def stopB (s : Bs) (c : UInt8) : Bool := slashB s c || markB c
def headB (p : UInt8 → Bool) : Bs → Bool
  | [] => false
  | c :: _ => p c

/-- The machine: the address so far, what is left of the text, the state, the error. -/
structure Mc where
  u : Adr
  r : Bs
  st : Nat
  err : Int

def markStep (c : Mc) : Mc := { c with st := (if c.r.head? = some 63 then 11 else if c.r.head? = some 35 then 12 else 13), r := c.r.drop 1 }
def takenStep (b : Adr) (c : Mc) : Mc :=
  if c.r = [] ∨ c.r.head? = some 35 then markStep { c with u := { c.u with way := ⟨false, [], c.u.way.segs ++ b.way.segs⟩, query := b.query } }
  else if c.r.head? = some 63 then markStep { c with u := { c.u with way := ⟨false, [], c.u.way.segs ++ b.way.segs⟩ } }
  else { c with u := { c.u with way := ⟨false, [], withoutLast c.u.scheme (c.u.way.segs ++ b.way.segs)⟩ }, st := 6 }
def nsStep (base : Option Adr) (c : Mc) : Mc :=
  match base with
  | none => { c with err := 3 }
  | some b =>
    if b.way.opaq = true ∧ c.r.head? ≠ some 35 then { c with err := 3 }
    else if b.way.opaq = true then markStep { c with u := { c.u with scheme := b.scheme, way := b.way, query := b.query } }
    else { c with u := { c.u with scheme := b.scheme }, st := (if b.scheme = sFile then 8 else 1) }
def noneStep (c : Mc) : Mc :=
  if c.r.head? = some 47 then (if (c.r.drop 1).head? = some 47 then { c with r := c.r.drop 2, st := 4 } else { c with st := 5 }) else { c with st := 7 }
def relStep (b : Adr) (c : Mc) : Mc :=
  if headB (slashB c.u.scheme) c.r = true then { c with r := c.r.drop 1, st := 2 } else takenStep b { c with u := { c.u with auth := b.auth } }
def slashStep (b : Adr) (c : Mc) : Mc :=
  if headB (slashB c.u.scheme) c.r = true then (if special c.u.scheme = true then { c with st := 3 } else { c with r := c.r.drop 1, st := 4 })
  else { c with u := { c.u with auth := b.auth }, st := 6 }
def ignStep (c : Mc) : Mc := { c with r := c.r.dropWhile (slashB c.u.scheme), st := 4 }
def untilR (s r : Bs) : Bs := r.takeWhile fun c => !stopB s c
def behindR (s r : Bs) : Bs := r.dropWhile fun c => !stopB s c
def pathStep (c : Mc) : Mc :=
  if headB (slashB c.u.scheme) c.r = true then { c with r := c.r.drop 1, st := 6 }
  else if (c.r = [] ∨ headB markB c.r = true) ∧ special c.u.scheme = false then markStep c
  else { c with st := 6 }
/-- The segments, with one more. -/
def segNext (s : Bs) (segs : List Bs) (p : Bs) (more : Bool) : List Bs :=
  if dots p = 0 then segs ++ [tellSeg s p segs.isEmpty]
  else (if dots p = 2 then withoutLast s segs else segs) ++ (if more then [] else [[]])
def segStep (c : Mc) : Mc :=
  let more := headB (slashB c.u.scheme) (behindR c.u.scheme c.r)
  let c1 := { c with u := { c.u with way := ⟨false, [], segNext c.u.scheme c.u.way.segs (untilR c.u.scheme c.r) more⟩ }, r := behindR c.u.scheme c.r }
  if more = true then { c1 with r := c1.r.drop 1 } else markStep c1
def opaqStep (c : Mc) : Mc := markStep { c with u := { c.u with way := ⟨true, escOpaque (c.r.takeWhile fun c => !markB c), []⟩ }, r := c.r.dropWhile fun c => !markB c }
def drivesB (r : Bs) : Bool := isDrive (r.take 2) && (r.drop 2).all fun _ => headB (fun c => c == 47 || c == 92 || c == 63 || c == 35) (r.drop 2)
def fileBase (base : Option Adr) : Option Adr := base.bind fun b => if b.scheme = sFile then some b else none
def fileStep (base : Option Adr) (c : Mc) : Mc :=
  let c0 := { c with u := { c.u with auth := { c.u.auth with has := true } } }
  if headB (slashB c.u.scheme) c.r = true then { c0 with r := c.r.drop 1, st := 9 }
  else match fileBase base with
    | none => { c0 with st := 6 }
    | some b =>
      let c1 := { c0 with u := { c0.u with auth := { c0.u.auth with host := b.auth.host } } }
      if ¬ (c.r = [] ∨ headB markB c.r = true) ∧ drivesB c.r = true then { c1 with st := 6 } else takenStep b c1
def fileSlashStep (base : Option Adr) (c : Mc) : Mc :=
  let c0 := { c with u := { c.u with auth := { c.u.auth with has := true } } }
  if headB (slashB c.u.scheme) c.r = true then { c0 with r := c.r.drop 1, st := 10 }
  else match fileBase base with
    | none => { c0 with st := 6 }
    | some b => { c0 with u := { c0.u with auth := { c0.u.auth with host := b.auth.host }, way := ⟨false, [], c.u.way.segs ++ (if drivesB c.r = true then [] else driveOf b.way.segs)⟩ }, st := 6 }
section
variable (H : Bs → Bool → Option Bs)
def authStep (c : Mc) : Mc :=
  match readAuthScan H (untilR c.u.scheme c.r) c.u.scheme with
  | .error e => { c with err := e }
  | .ok a => { c with u := { c.u with auth := a }, r := behindR c.u.scheme c.r, st := 5 }
def fileHostStep (c : Mc) : Mc :=
  let c0 := { c with u := { c.u with auth := { c.u.auth with has := true } } }
  if isDrive (untilR c.u.scheme c.r) = true then { c0 with st := 6 }
  else match fileHost H (untilR c.u.scheme c.r) with
    | none => { c0 with err := 4 }
    | some h => { c0 with u := { c0.u with auth := { c0.u.auth with host := h } }, r := behindR c.u.scheme c.r, st := 5 }
def queryStep (c : Mc) : Mc := markStep { c with u := { c.u with query := some (esc (querySet c.u.scheme) (c.r.takeWhile fun b => decide (b ≠ 35))) }, r := c.r.dropWhile fun b => decide (b ≠ 35) }
def fragStep (c : Mc) : Mc := { c with u := { c.u with frag := some (esc 1 c.r) }, st := 13 }

def mstep (base : Option Adr) (c : Mc) : Mc :=
  if c.st = 14 then nsStep base c
  else if c.st = 15 then noneStep c
  else if c.st = 1 then (match base with | some b => relStep b c | none => c)
  else if c.st = 2 then (match base with | some b => slashStep b c | none => c)
  else if c.st = 3 then ignStep c
  else if c.st = 4 then authStep H c
  else if c.st = 5 then pathStep c
  else if c.st = 6 then segStep c
  else if c.st = 7 then opaqStep c
  else if c.st = 8 then fileStep base c
  else if c.st = 9 then fileSlashStep base c
  else if c.st = 10 then fileHostStep H c
  else if c.st = 11 then queryStep c
  else if c.st = 12 then fragStep c
  else c
def mrun (base : Option Adr) : Nat → Mc → Option Mc
  | 0, c => if c.st = 13 ∨ c.err ≠ 0 then some c else none
  | n + 1, c => if c.st = 13 ∨ c.err ≠ 0 then some c else mrun base n (mstep H base c)
/-- From there the machine comes to that. -/
def Runs (base : Option Adr) (c : Mc) (res : Except Int Adr) : Prop := ∃ n f, mrun H base n c = some f ∧ match res with | .error e => f.err = e ∧ e ≠ 0 | .ok a => f.err = 0 ∧ f.u = a

theorem runs_step (base : Option Adr) (c : Mc) (res : Except Int Adr) (h13 : c.st ≠ 13) (he : c.err = 0) (h : Runs H base (mstep H base c) res) : Runs H base c res := by
  obtain ⟨n, f, h1, h2⟩ := h
  refine ⟨n + 1, f, ?_, h2⟩
  rw [mrun, if_neg]
  · exact h1
  · rintro (h | h)
    · exact h13 h
    · exact h he
theorem runs_end (base : Option Adr) (c : Mc) (h13 : c.st = 13) (he : c.err = 0) : Runs H base c (.ok c.u) := ⟨0, c, by rw [mrun, if_pos (Or.inl h13)], he, rfl⟩
theorem runs_err (base : Option Adr) (c : Mc) (e : Int) (hc : c.err = e) (he : e ≠ 0) : Runs H base c (.error e) := ⟨0, c, by rw [mrun, if_pos (Or.inr (by rw [hc]; exact he))], hc, he⟩

/-- Query and fragment, as they stand behind the middle. -/
def tailB (q f : Option Bs) : Bs := tellOpt 63 q ++ tellOpt 35 f
def fin (u : Adr) (q f : Option Bs) : Adr :=
  { u with query := (match q with | none => u.query | some x => some (esc (querySet u.scheme) x)), frag := (match f with | none => u.frag | some x => some (esc 1 x)) }
theorem tail_head (q f : Option Bs) (c : UInt8) (l : Bs) (h : tailB q f = c :: l) : markB c = true := by
  unfold tailB at h
  cases q with
  | some x => injection h with h _; subst h; rfl
  | none =>
    cases f with
    | some y => injection h with h _; subst h; rfl
    | none => cases h
theorem tail_nil (q f : Option Bs) : tailB q f = [] ∨ (∃ l, tailB q f = 63 :: l ∧ q.isSome = true) ∨ (∃ l, tailB q f = 35 :: l ∧ q = none) := by
  cases q with
  | some x => exact Or.inr (Or.inl ⟨x ++ tellOpt 35 f, rfl, rfl⟩)
  | none =>
    cases f with
    | some y => exact Or.inr (Or.inr ⟨y, rfl, rfl⟩)
    | none => exact Or.inl rfl
theorem take_mark (x y : Bs) (h : ∀ c ∈ x, c ≠ 35) : (x ++ 35 :: y).takeWhile (fun b => decide (b ≠ 35)) = x ∧ (x ++ 35 :: y).dropWhile (fun b => decide (b ≠ 35)) = 35 :: y := by
  rw [List.takeWhile_append_of_pos (by simpa using h), List.dropWhile_append_of_pos (by simpa using h)]
  simp
theorem take_all (x : Bs) (p : UInt8 → Bool) (h : ∀ c ∈ x, p c = true) : x.takeWhile p = x ∧ x.dropWhile p = [] := by
  have e1 := List.takeWhile_append_of_pos (p := p) (l₁ := x) (l₂ := []) h
  have e2 := List.dropWhile_append_of_pos (p := p) (l₁ := x) (l₂ := []) h
  simp only [List.append_nil, List.takeWhile_nil, List.dropWhile_nil] at e1 e2
  exact ⟨e1, e2⟩
theorem runs_frag (base : Option Adr) (c : Mc) (he : c.err = 0) (hs : c.st = 12) : Runs H base c (.ok { c.u with frag := some (esc 1 c.r) }) := by
  refine runs_step H base c _ (by rw [hs]; decide) he ?_
  have e : mstep H base c = fragStep c := by simp [mstep, hs]
  rw [e]
  exact runs_end H base _ rfl he
theorem runs_mark (base : Option Adr) (c : Mc) (q f : Option Bs) (he : c.err = 0) (hr : c.r = tailB q f) (hq : ∀ x, q = some x → ∀ b ∈ x, b ≠ 35) : Runs H base (markStep c) (.ok (fin c.u q f)) := by
  cases q with
  | none =>
    cases f with
    | none =>
      have e : markStep c = { c with st := 13, r := [] } := by unfold markStep; rw [hr]; rfl
      rw [e]
      exact runs_end H base _ rfl he
    | some y =>
      have e : markStep c = { c with st := 12, r := y } := by unfold markStep; rw [hr]; rfl
      rw [e]
      exact runs_frag H base _ he rfl
  | some x =>
    have hx := hq x rfl
    have e : markStep c = { c with st := 11, r := x ++ tellOpt 35 f } := by unfold markStep; rw [hr]; rfl
    rw [e]
    refine runs_step H base _ _ (by simp) he ?_
    have e2 : mstep H base { c with st := 11, r := x ++ tellOpt 35 f } = queryStep { c with st := 11, r := x ++ tellOpt 35 f } := by simp [mstep]
    rw [e2]
    unfold queryStep
    cases f with
    | none =>
      have e3 : (x ++ tellOpt 35 none).takeWhile (fun b => decide (b ≠ 35)) = x ∧ (x ++ tellOpt 35 none).dropWhile (fun b => decide (b ≠ 35)) = [] := by
        rw [show tellOpt 35 none = [] from rfl, List.append_nil]
        exact take_all x _ (by simpa using hx)
      simp only [e3.1, e3.2]
      exact runs_end H base _ rfl he
    | some y =>
      have e3 := take_mark x y hx
      have e3 : (x ++ tellOpt 35 (some y)).takeWhile (fun b => decide (b ≠ 35)) = x ∧ (x ++ tellOpt 35 (some y)).dropWhile (fun b => decide (b ≠ 35)) = 35 :: y := e3
      simp only [e3.1, e3.2]
      exact runs_frag H base _ he rfl

/-- What is taken ahead of the tail. -/
theorem tw_tail (p : UInt8 → Bool) (T : Bs) (hT : ∀ c l, T = c :: l → p c = false) : ∀ m : Bs, (m ++ T).takeWhile p = m.takeWhile p ∧ (m ++ T).dropWhile p = m.dropWhile p ++ T
  | [] => by
    cases T with
    | nil => exact ⟨rfl, rfl⟩
    | cons c l => simp [List.takeWhile, List.dropWhile, hT c l rfl]
  | c :: m => by
    have ih := tw_tail p T hT m
    cases hp : p c with
    | true => simp [List.takeWhile, List.dropWhile, hp, ih]
    | false => simp [List.takeWhile, List.dropWhile, hp]
theorem tw_congr (p q : UInt8 → Bool) : ∀ m : Bs, (∀ c ∈ m, p c = q c) → m.takeWhile p = m.takeWhile q ∧ m.dropWhile p = m.dropWhile q
  | [], _ => ⟨rfl, rfl⟩
  | c :: m, h => by
    have ih := tw_congr p q m (fun x hx => h x (by simp [hx]))
    have hc := h c (by simp)
    cases hp : p c with
    | true => rw [hp] at hc; simp [List.takeWhile, List.dropWhile, hp, ← hc, ih]
    | false => rw [hp] at hc; simp [List.takeWhile, List.dropWhile, hp, ← hc]
def noMark (m : Bs) : Prop := ∀ c ∈ m, c ≠ 35 ∧ c ≠ 63
theorem until_tail (s m : Bs) (q f : Option Bs) (hm : noMark m) : untilR s (m ++ tailB q f) = m.takeWhile (fun c => !slashB s c) ∧ behindR s (m ++ tailB q f) = m.dropWhile (fun c => !slashB s c) ++ tailB q f := by
  unfold untilR behindR
  have h1 := tw_tail (fun c => !stopB s c) (tailB q f) (fun c l h => by simp [stopB, tail_head q f c l h]) m
  have h2 := tw_congr (fun c => !stopB s c) (fun c => !slashB s c) m (fun c hc => by have := hm c hc; simp [stopB, markB, this.1, this.2])
  rw [h1.1, h1.2, h2.1, h2.2]
  exact ⟨rfl, rfl⟩
theorem slash_mark (s : Bs) (c : UInt8) (h : markB c = true) : slashB s c = false := by
  simp only [markB, Bool.or_eq_true, beq_iff_eq] at h
  rcases h with rfl | rfl
  · simp [slashB]
  · simp [slashB]
theorem head_tail (s m : Bs) (q f : Option Bs) : headB (slashB s) (m ++ tailB q f) = headB (slashB s) m := by
  cases m with
  | cons c m => rfl
  | nil =>
    show headB (slashB s) (tailB q f) = false
    cases ht : tailB q f with
    | nil => rfl
    | cons c l => exact slash_mark s c (tail_head q f c l ht)

-- slashes made even
theorem even_nonslash (s m : Bs) (h : ∀ c ∈ m, slashB s c = false) : evenSlashes s m = m := by
  cases hs : special s with
  | false => unfold evenSlashes; rw [hs]; rfl
  | true =>
    refine even_same s m (fun c hc e => ?_)
    have := h c hc
    rw [e] at this
    simp [slashB, hs] at this
theorem even_cons (s : Bs) (c : UInt8) (m : Bs) : evenSlashes s (c :: m) = (if slashB s c = true then 47 else c) :: evenSlashes s m := by
  unfold evenSlashes
  cases hs : special s with
  | false =>
    simp only [Bool.false_eq_true, if_false]
    congr 1
    by_cases h : c = 47
    · subst h; simp
    · simp [slashB, hs, h]
  | true =>
    simp only [if_true, List.map_cons]
    congr 1
    by_cases h : c = 92
    · subst h; simp [slashB, hs]
    · by_cases h2 : c = 47
      · subst h2; simp
      · simp [slashB, hs, h, h2]
theorem even_slash (s : Bs) (c : UInt8) (h : slashB s c = true) (m : Bs) : evenSlashes s (c :: m) = 47 :: evenSlashes s m := by rw [even_cons, if_pos h]
theorem even_other (s : Bs) (c : UInt8) (h : slashB s c = false) (m : Bs) : evenSlashes s (c :: m) = c :: evenSlashes s m := by rw [even_cons, if_neg (by simp [h])]
theorem nonslash_ne (s : Bs) (c : UInt8) (h : slashB s c = false) : c ≠ 47 := by
  rintro rfl
  simp [slashB] at h
theorem even_cut (s : Bs) : ∀ m : Bs, cutSlash (evenSlashes s m) = (m.takeWhile (fun c => !slashB s c), evenSlashes s (m.dropWhile (fun c => !slashB s c)))
  | [] => by
    have e : evenSlashes s [] = [] := by unfold evenSlashes; split <;> rfl
    simp [e, cutSlash]
  | c :: m => by
    have ih := even_cut s m
    cases hc : slashB s c with
    | true =>
      rw [even_slash s c hc]
      simp [cutSlash, hc, even_slash s c hc]
    | false =>
      rw [even_other s c hc]
      unfold cutSlash at ih ⊢
      have hne := nonslash_ne s c hc
      simp only [Prod.mk.injEq] at ih
      simp only [List.takeWhile_cons, List.dropWhile_cons, hc, hne, ne_eq, not_false_eq_true, decide_true, if_true, Bool.not_false, ih.1, ih.2]
theorem take_slash (s m : Bs) : (∀ c ∈ m.takeWhile (fun c => !slashB s c), slashB s c = false) ∧ m = m.takeWhile (fun c => !slashB s c) ++ m.dropWhile (fun c => !slashB s c) := by
  refine ⟨fun c hc => ?_, (List.takeWhile_append_dropWhile).symm⟩
  have := List.all_takeWhile (p := fun c => !slashB s c) (l := m)
  rw [List.all_eq_true] at this
  simpa using this c hc
theorem drop_slash (s m : Bs) (c : UInt8) (l : Bs) (h : m.dropWhile (fun c => !slashB s c) = c :: l) : slashB s c = true := by
  have := List.head?_dropWhile_not (fun c => !slashB s c) m
  rw [h] at this
  simpa using this
theorem split_even (s m : Bs) : match m.dropWhile (fun c => !slashB s c) with
    | [] => splitOn 47 (evenSlashes s m) = [m.takeWhile (fun c => !slashB s c)]
    | _ :: l => splitOn 47 (evenSlashes s m) = m.takeWhile (fun c => !slashB s c) :: splitOn 47 (evenSlashes s l) := by
  have ht := take_slash s m
  have e : evenSlashes s m = m.takeWhile (fun c => !slashB s c) ++ evenSlashes s (m.dropWhile (fun c => !slashB s c)) := by
    have h1 := even_cut s m
    unfold cutSlash at h1
    simp only [Prod.mk.injEq] at h1
    rw [← h1.1, ← h1.2, List.takeWhile_append_dropWhile]
  have hn : ∀ x ∈ m.takeWhile (fun c => !slashB s c), x ≠ 47 := fun x hx => nonslash_ne s x (ht.1 x hx)
  cases hd : m.dropWhile (fun c => !slashB s c) with
  | nil =>
    rw [hd] at e
    have e0 : evenSlashes s [] = [] := by unfold evenSlashes; split <;> rfl
    rw [e0, List.append_nil] at e
    show splitOn 47 (evenSlashes s m) = _
    rw [e, splitOn_miss 47 _ hn]
  | cons c l =>
    rw [hd, even_slash s c (drop_slash s m c l hd)] at e
    show splitOn 47 (evenSlashes s m) = _
    rw [e, splitOn_hit 47 _ _ hn]

/-- The segments from there on. -/
theorem runs_segs (base : Option Adr) (q f : Option Bs) (hq : ∀ x, q = some x → ∀ b ∈ x, b ≠ 35) : ∀ (n : Nat) (c : Mc) (m : Bs), m.length ≤ n → c.err = 0 → c.st = 6 → c.r = m ++ tailB q f → noMark m →
    Runs H base c (.ok (fin { c.u with way := ⟨false, [], segLoop c.u.scheme c.u.way.segs (splitOn 47 (evenSlashes c.u.scheme m))⟩ } q f))
  | n, c, m, hn, he, hst, hr, hm => by
    refine runs_step H base c _ (by rw [hst]; decide) he ?_
    have e : mstep H base c = segStep c := by simp [mstep, hst]
    rw [e]
    unfold segStep
    have hu := until_tail c.u.scheme m q f hm
    simp only [hr, hu.1, hu.2, head_tail]
    have hsp := split_even c.u.scheme m
    have hts := take_slash c.u.scheme m
    cases hd : m.dropWhile (fun b => !slashB c.u.scheme b) with
    | nil =>
      rw [hd] at hsp
      simp only at hsp
      rw [hsp]
      have hmark := runs_mark H base { c with u := { c.u with way := ⟨false, [], segNext c.u.scheme c.u.way.segs (m.takeWhile (fun b => !slashB c.u.scheme b)) false⟩ }, r := tailB q f } q f he rfl hq
      have e2 : segLoop c.u.scheme c.u.way.segs [m.takeWhile (fun b => !slashB c.u.scheme b)] = segNext c.u.scheme c.u.way.segs (m.takeWhile (fun b => !slashB c.u.scheme b)) false := by
        unfold segNext
        rw [segLoop]
        split
        · rfl
        · rfl
      rw [e2]
      exact hmark
    | cons d l =>
      rw [hd] at hsp
      simp only at hsp
      rw [hsp]
      have hsl := drop_slash _ m d l hd
      have hh : headB (slashB c.u.scheme) (d :: l) = true := hsl
      simp only [hh, if_true]
      have hlen : l.length < m.length := by
        have := congrArg List.length hts.2
        rw [hd] at this
        simp at this
        omega
      match n, hn with
      | 0, hn => omega
      | n + 1, hn =>
        have hml : noMark l := fun x hx => hm x (by rw [hts.2, hd]; simp [hx])
        have ih := runs_segs base q f hq n { c with u := { c.u with way := ⟨false, [], segNext c.u.scheme c.u.way.segs (m.takeWhile (fun b => !slashB c.u.scheme b)) true⟩ }, r := l ++ tailB q f } l (by omega) he hst rfl hml
        have e2 : segLoop c.u.scheme c.u.way.segs (m.takeWhile (fun b => !slashB c.u.scheme b) :: splitOn 47 (evenSlashes c.u.scheme l)) = segLoop c.u.scheme (segNext c.u.scheme c.u.way.segs (m.takeWhile (fun b => !slashB c.u.scheme b)) true) (splitOn 47 (evenSlashes c.u.scheme l)) := by
          unfold segNext
          rw [segLoop]
          split
          · rfl
          · have : (splitOn 47 (evenSlashes c.u.scheme l)).isEmpty = false := by
              cases hx : splitOn 47 (evenSlashes c.u.scheme l) with
              | nil => exact absurd hx (splitOn_ne 47 _)
              | cons a b => rfl
            rw [this]
            rfl
        rw [e2]
        exact ih

theorem trim_even (s : Bs) (m : Bs) : trimSlash (evenSlashes s m) = evenSlashes s (if headB (slashB s) m = true then m.drop 1 else m) := by
  cases m with
  | nil => unfold evenSlashes; split <;> rfl
  | cons c m =>
    cases hc : slashB s c with
    | true => rw [even_slash s c hc, if_pos (show headB (slashB s) (c :: m) = true from hc)]; rfl
    | false =>
      rw [even_other s c hc, if_neg (show ¬ headB (slashB s) (c :: m) = true from by simp [headB, hc]), even_other s c hc]
      have := nonslash_ne s c hc
      unfold trimSlash
      split
      · rename_i h
        injection h with h _
        exact absurd h this
      · rfl
theorem even_empty (s m : Bs) : evenSlashes s m = [] ↔ m = [] := by
  refine ⟨fun h => Classical.byContradiction fun h2 => even_nil s m h2 h, fun h => ?_⟩
  subst h
  unfold evenSlashes
  split <;> rfl

/-- At the path's beginning. -/
theorem runs_path (base : Option Adr) (c : Mc) (m : Bs) (q f : Option Bs) (hq : ∀ x, q = some x → ∀ b ∈ x, b ≠ 35) (he : c.err = 0) (hst : c.st = 5) (hr : c.r = m ++ tailB q f) (hm : noMark m) (hw : c.u.way = ⟨false, [], []⟩) :
    Runs H base c (.ok (fin { c.u with way := readWay c.u.scheme [] (evenSlashes c.u.scheme m) } q f)) := by
  refine runs_step H base c _ (by rw [hst]; decide) he ?_
  have e : mstep H base c = pathStep c := by simp [mstep, hst]
  rw [e]
  unfold pathStep
  rw [hr, head_tail]
  have hsegs := fun (c2 : Mc) (m2 : Bs) (hu : c2.u = c.u) (he2 : c2.err = 0) (hst2 : c2.st = 6) (hr2 : c2.r = m2 ++ tailB q f) (hm2 : noMark m2) => runs_segs H base q f hq m2.length c2 m2 (Nat.le_refl _) he2 hst2 hr2 hm2
  by_cases hh : headB (slashB c.u.scheme) m = true
  · rw [if_pos hh]
    obtain ⟨d, l, rfl⟩ : ∃ d l, m = d :: l := by
      cases m with
      | nil => cases hh
      | cons d l => exact ⟨d, l, rfl⟩
    have := hsegs { c with r := l ++ tailB q f, st := 6 } l rfl he rfl rfl (fun x hx => hm x (by simp [hx]))
    have e2 : readWay c.u.scheme [] (evenSlashes c.u.scheme (d :: l)) = ⟨false, [], segLoop c.u.scheme c.u.way.segs (splitOn 47 (evenSlashes c.u.scheme l))⟩ := by
      unfold readWay readSegs
      rw [if_neg (fun h => by rw [even_empty] at h; cases h.1), trim_even, if_pos hh, hw]
      rfl
    rw [e2]
    exact this
  · rw [if_neg hh]
    by_cases hx : (m ++ tailB q f = [] ∨ headB markB (m ++ tailB q f) = true) ∧ special c.u.scheme = false
    · rw [if_pos hx]
      have hm0 : m = [] := by
        cases m with
        | nil => rfl
        | cons d l =>
          have hd := hm d (by simp)
          rcases hx.1 with h | h
          · cases h
          · simp [headB, markB, hd.1, hd.2] at h
      subst hm0
      have := runs_mark H base c q f he hr hq
      have e2 : readWay c.u.scheme [] (evenSlashes c.u.scheme []) = c.u.way := by
        unfold readWay readSegs
        rw [if_pos ⟨(even_empty _ _).2 rfl, hx.2⟩, hw]
      rw [e2]
      exact this
    · rw [if_neg hx]
      have := hsegs { c with r := m ++ tailB q f, st := 6 } m rfl he rfl rfl hm
      have e2 : readWay c.u.scheme [] (evenSlashes c.u.scheme m) = ⟨false, [], segLoop c.u.scheme c.u.way.segs (splitOn 47 (evenSlashes c.u.scheme m))⟩ := by
        unfold readWay readSegs
        rw [if_neg, trim_even, if_neg hh, hw]
        rintro ⟨h1, h2⟩
        rw [even_empty] at h1
        subst h1
        refine hx ⟨?_, h2⟩
        rcases tail_nil q f with h | ⟨l, h, _⟩ | ⟨l, h, _⟩
        · left; exact h
        · right; rw [show ([] ++ tailB q f : Bs) = 63 :: l from h]; rfl
        · right; rw [show ([] ++ tailB q f : Bs) = 35 :: l from h]; rfl
      rw [e2]
      exact this
end
end Go.Moor
/-
  Plain mathematics: the machine, begun at a text, comes to what is cut at its marks: readAddr.
-/
namespace Go.Moor
open Go

section
variable (H : Bs → Bool → Option Bs)

theorem fin_way (u : Adr) (w : Way) (q f : Option Bs) : fin { u with way := w } q f = { fin u q f with way := w } := rfl

/-- An authority begins. -/
theorem runs_auth (hm2 : HostMarks H) (base : Option Adr) (c : Mc) (m : Bs) (q f : Option Bs) (hq : ∀ x, q = some x → ∀ b ∈ x, b ≠ 35) (he : c.err = 0) (hst : c.st = 4) (hr : c.r = m ++ tailB q f) (hm : noMark m) (hw : c.u.way = ⟨false, [], []⟩) :
    Runs H base c (match fromAuth H c.u.scheme (evenSlashes c.u.scheme m) with | .error e => .error e | .ok (a, w) => .ok (fin { c.u with auth := a, way := w } q f)) := by
  refine runs_step H base c _ (by rw [hst]; decide) he ?_
  have e : mstep H base c = authStep H c := by simp [mstep, hst]
  rw [e]
  unfold authStep fromAuth
  have hu := until_tail c.u.scheme m q f hm
  simp only [hr, hu.1, hu.2, auth_scan H hm2, even_cut]
  cases ha : readAuth H (m.takeWhile fun b => !slashB c.u.scheme b) c.u.scheme with
  | error n =>
    simp only
    have hn : n ≠ 0 := by
      unfold readAuth at ha
      simp only at ha
      split at ha
      · injection ha with ha; rw [← ha]; decide
      · split at ha
        · injection ha with ha; rw [← ha]; decide
        · cases ha
    exact runs_err H base _ n rfl hn
  | ok a =>
    simp only
    have hts := take_slash c.u.scheme m
    exact runs_path H base { c with u := { c.u with auth := a }, r := m.dropWhile (fun b => !slashB c.u.scheme b) ++ tailB q f, st := 5 } _ q f hq he rfl rfl (fun x hx => hm x (by rw [hts.2]; exact List.mem_append_right _ hx)) hw

theorem drop_even (s : Bs) (T : Bs) (hT : ∀ c l, T = c :: l → slashB s c = false) : ∀ m : Bs, (m ++ T).dropWhile (slashB s) = m.dropWhile (slashB s) ++ T ∧ evenSlashes s (m.dropWhile (slashB s)) = trimSlashes (evenSlashes s m)
  | [] => by
    refine ⟨?_, ?_⟩
    · cases T with
      | nil => rfl
      | cons c l => simp [hT c l rfl]
    · have e0 : evenSlashes s [] = [] := (even_empty s []).2 rfl
      simp [e0, trimSlashes]
  | c :: m => by
    have ih := drop_even s T hT m
    cases hc : slashB s c with
    | true =>
      rw [even_slash s c hc]
      simp only [List.cons_append, List.dropWhile_cons, hc, if_true]
      refine ⟨ih.1, ?_⟩
      rw [ih.2]
      simp [trimSlashes]
    | false =>
      simp only [List.cons_append, List.dropWhile_cons, hc, Bool.false_eq_true, if_false]
      refine ⟨trivial, ?_⟩
      rw [even_other s c hc]
      have := nonslash_ne s c hc
      simp [trimSlashes, this]
theorem drop_mem (s m : Bs) (x : UInt8) (h : x ∈ m.dropWhile (slashB s)) : x ∈ m := (List.dropWhile_sublist _).subset h

theorem runs_ign (hm2 : HostMarks H) (base : Option Adr) (c : Mc) (m : Bs) (q f : Option Bs) (hq : ∀ x, q = some x → ∀ b ∈ x, b ≠ 35) (he : c.err = 0) (hst : c.st = 3) (hr : c.r = m ++ tailB q f) (hm : noMark m) (hw : c.u.way = ⟨false, [], []⟩) :
    Runs H base c (match fromAuth H c.u.scheme (trimSlashes (evenSlashes c.u.scheme m)) with | .error e => .error e | .ok (a, w) => .ok (fin { c.u with auth := a, way := w } q f)) := by
  refine runs_step H base c _ (by rw [hst]; decide) he ?_
  have e : mstep H base c = ignStep c := by simp [mstep, hst]
  rw [e]
  unfold ignStep
  have hd := drop_even c.u.scheme (tailB q f) (fun b l h => slash_mark _ b (tail_head q f b l h)) m
  rw [hr, hd.1, ← hd.2]
  exact runs_auth H hm2 base { c with r := m.dropWhile (slashB c.u.scheme) ++ tailB q f, st := 4 } _ q f hq he rfl rfl (fun x hx => hm x (drop_mem _ m x hx)) hw

theorem even_none (s m : Bs) (h : special s = false) : evenSlashes s m = m := by unfold evenSlashes; rw [h]; rfl
theorem slash_none (s : Bs) (h : special s = false) (c : UInt8) : slashB s c = (c == 47) := by simp [slashB, h]

theorem opaq_take (m : Bs) (q f : Option Bs) (hm : noMark m) : (m ++ tailB q f).takeWhile (fun c => !markB c) = m ∧ (m ++ tailB q f).dropWhile (fun c => !markB c) = tailB q f := by
  have h1 := tw_tail (fun c => !markB c) (tailB q f) (fun c l h => by simp [tail_head q f c l h]) m
  have h2 := take_all m (fun c => !markB c) (fun c hc => by have := hm c hc; simp [markB, this.1, this.2])
  rw [h1.1, h1.2, h2.1, h2.2]
  exact ⟨rfl, rfl⟩

/-- Behind the scheme of one that is not special. -/
theorem runs_none (hm2 : HostMarks H) (base : Option Adr) (c : Mc) (m : Bs) (q f : Option Bs) (hq : ∀ x, q = some x → ∀ b ∈ x, b ≠ 35) (he : c.err = 0) (hst : c.st = 15) (hr : c.r = m ++ tailB q f) (hm : noMark m) (hw : c.u.way = ⟨false, [], []⟩) (ha : c.u.auth = noAuth) (hs : special c.u.scheme = false) :
    Runs H base c (match readOther H c.u.scheme m with | .error e => .error e | .ok (a, w) => .ok (fin { c.u with auth := a, way := w } q f)) := by
  refine runs_step H base c _ (by rw [hst]; decide) he ?_
  have e : mstep H base c = noneStep c := by simp [mstep, hst]
  rw [e]
  unfold noneStep readOther
  have hv := fun x => even_none c.u.scheme x hs
  have tailne : ∀ l, tailB q f ≠ 47 :: l := fun l h => absurd (tail_head q f 47 l h) (by decide)
  match m, hm with
  | [], hm =>
    have h1 : ¬ (([] ++ tailB q f).head? = some 47) := by
      intro h
      cases ht : tailB q f with
      | nil => rw [ht] at h; cases h
      | cons d l => rw [ht] at h; simp at h; subst h; exact tailne l ht
    rw [hr, if_neg h1, if_neg (by simp [List.isPrefixOf]), if_neg (by simp)]
    simp only
    refine runs_step H base _ _ (by simp) he ?_
    have e2 : mstep H base { c with r := [] ++ tailB q f, st := 7 } = opaqStep { c with r := [] ++ tailB q f, st := 7 } := by simp [mstep]
    rw [e2]
    unfold opaqStep
    have ho := opaq_take [] q f hm
    simp only [ho.1, ho.2]
    have := runs_mark H base { c with u := { c.u with way := ⟨true, escOpaque [], []⟩ }, r := tailB q f, st := 7 } q f he rfl hq
    rw [← ha]
    exact this
  | d :: l, hm =>
    by_cases hd : d = 47
    · subst hd
      have h1 : ((47 :: l) ++ tailB q f).head? = some 47 := rfl
      rw [hr, if_pos h1]
      have hml : noMark l := fun x hx => hm x (by simp [hx])
      match l, hml with
      | [], hml =>
        have h2 : ¬ ((List.drop 1 ((47 :: []) ++ tailB q f)).head? = some 47) := by
          intro h
          cases ht : tailB q f with
          | nil => rw [ht] at h; cases h
          | cons x y => rw [ht] at h; simp at h; subst h; exact tailne y ht
        rw [if_neg h2, if_neg (by simp [List.isPrefixOf]), if_pos (by rfl)]
        simp only
        have := runs_path H base { c with r := [47] ++ tailB q f, st := 5 } [47] q f hq he rfl rfl hm hw
        rw [hv] at this
        rw [← ha]
        exact this
      | x :: y, hml =>
        by_cases hx : x = 47
        · subst hx
          rw [if_pos (by rfl), if_pos (by rfl)]
          have := runs_auth H hm2 base { c with r := y ++ tailB q f, st := 4 } y q f hq he rfl rfl (fun z hz => hm z (by simp [hz])) hw
          rw [hv] at this
          exact this
        · have h2 : ¬ ((List.drop 1 ((47 :: x :: y) ++ tailB q f)).head? = some 47) := by simpa using hx
          rw [if_neg h2, if_neg (by simp [List.isPrefixOf]; exact fun h => hx h.symm), if_pos (by rfl)]
          simp only
          have := runs_path H base { c with r := (47 :: x :: y) ++ tailB q f, st := 5 } (47 :: x :: y) q f hq he rfl rfl hm hw
          rw [hv] at this
          rw [← ha]
          exact this
    · have h1 : ¬ (((d :: l) ++ tailB q f).head? = some 47) := by simpa using hd
      rw [hr, if_neg h1, if_neg (by simp [List.isPrefixOf]; exact fun h => absurd h.symm hd), if_neg (by simpa using hd)]
      simp only
      refine runs_step H base _ _ (by simp) he ?_
      have e2 : mstep H base { c with r := (d :: l) ++ tailB q f, st := 7 } = opaqStep { c with r := (d :: l) ++ tailB q f, st := 7 } := by simp [mstep]
      rw [e2]
      unfold opaqStep
      have ho := opaq_take (d :: l) q f hm
      simp only [ho.1, ho.2]
      have := runs_mark H base { c with u := { c.u with way := ⟨true, escOpaque (d :: l), []⟩ }, r := tailB q f, st := 7 } q f he rfl hq
      rw [← ha]
      exact this

/-- The path, and perhaps the query, of the base; then what comes. -/
theorem runs_taken (base : Option Adr) (b : Adr) (c : Mc) (m : Bs) (q f : Option Bs) (hq : ∀ x, q = some x → ∀ b ∈ x, b ≠ 35) (he : c.err = 0) (hr : c.r = m ++ tailB q f) (hm : noMark m) (hs : headB (slashB c.u.scheme) m = false) (hw : c.u.way = ⟨false, [], []⟩) (hu : c.u.query = none) (hfr : c.u.frag = none) (hbw : b.way.opaq = false ∧ b.way.text = []) :
    Runs H base (takenStep b c) (.ok { c.u with way := (goOn c.u.scheme (evenSlashes c.u.scheme m) (q.map (esc (querySet c.u.scheme))) b).1, query := (goOn c.u.scheme (evenSlashes c.u.scheme m) (q.map (esc (querySet c.u.scheme))) b).2, frag := f.map (esc 1) }) := by
  have hbw2 : b.way = ⟨false, [], b.way.segs⟩ := by
    cases hx : b.way with
    | mk o t sg => rw [hx] at hbw; simp only at hbw; rw [hbw.1, hbw.2]
  have hnil : ([] : List Bs) ++ b.way.segs = b.way.segs := rfl
  unfold takenStep goOn
  rw [hr, hw]
  simp only [hnil]
  cases m with
  | nil =>
    have hem : evenSlashes c.u.scheme [] = [] := (even_empty _ _).2 rfl
    rw [if_neg (show ¬ (evenSlashes c.u.scheme [] ≠ []) from fun h => h hem)]
    rw [List.nil_append]
    rcases tail_nil q f with ht | ⟨l, ht, hqs⟩ | ⟨l, ht, hqn⟩
    · rw [if_pos (Or.inl ht)]
      have hqf : q = none ∧ f = none := by
        cases q with
        | some x => cases ht
        | none =>
          cases f with
          | some y => cases ht
          | none => exact ⟨rfl, rfl⟩
      obtain ⟨rfl, rfl⟩ := hqf
      have := runs_mark H base { c with u := { c.u with way := ⟨false, [], b.way.segs⟩, query := b.query }, r := tailB none none } none none he rfl hq
      rw [← hbw2] at this ⊢
      simp only [fin, hfr] at this ⊢
      exact this
    · rw [if_neg, if_pos]
      · have := runs_mark H base { c with u := { c.u with way := ⟨false, [], b.way.segs⟩ }, r := tailB q f } q f he rfl hq
        rw [← hbw2] at this ⊢
        obtain ⟨x, rfl⟩ : ∃ x, q = some x := by cases q with | none => cases hqs | some x => exact ⟨x, rfl⟩
        simp only [fin, hfr] at this ⊢
        cases f with
        | none => exact this
        | some y => exact this
      · rw [ht]; rfl
      · rw [ht]
        rintro (h | h)
        · cases h
        · simp at h
    · subst hqn
      rw [if_pos (Or.inr (by rw [ht]; rfl))]
      have := runs_mark H base { c with u := { c.u with way := ⟨false, [], b.way.segs⟩, query := b.query }, r := tailB none f } none f he rfl hq
      rw [← hbw2] at this ⊢
      simp only [fin, hfr] at this ⊢
      cases f with
      | none => exact this
      | some y => exact this
  | cons d l =>
    have hd := hm d (by simp)
    rw [if_neg, if_neg, if_pos (even_nil _ _ (by simp))]
    · have := runs_segs H base q f hq (d :: l).length { c with u := { c.u with way := ⟨false, [], withoutLast c.u.scheme b.way.segs⟩ }, r := (d :: l) ++ tailB q f, st := 6 } (d :: l) (Nat.le_refl _) he rfl rfl hm
      have e2 : readWay c.u.scheme (withoutLast c.u.scheme b.way.segs) (evenSlashes c.u.scheme (d :: l)) = ⟨false, [], segLoop c.u.scheme (withoutLast c.u.scheme b.way.segs) (splitOn 47 (evenSlashes c.u.scheme (d :: l)))⟩ := by
        unfold readWay readSegs
        rw [if_neg (fun h => even_nil _ _ (by simp) h.1), trim_even, if_neg (by simp [hs])]
      rw [e2]
      simp only [fin, hfr, hu] at this ⊢
      cases q with
      | none =>
        cases f with
        | none => exact this
        | some y => exact this
      | some x =>
        cases f with
        | none => exact this
        | some y => exact this
    · simpa using hd.2
    · simpa using hd.1

theorem head_even (s m : Bs) : ((evenSlashes s m).head? = some 47) ↔ headB (slashB s) m = true := by
  cases m with
  | nil => rw [(even_empty s []).2 rfl]; simp [headB]
  | cons c m =>
    cases hc : slashB s c with
    | true => rw [even_slash s c hc]; simp [headB, hc]
    | false => rw [even_other s c hc]; have := nonslash_ne s c hc; simp [headB, hc, this]
theorem two_even (s m : Bs) : ([47, 47].isPrefixOf (evenSlashes s m) = true) ↔ (headB (slashB s) m = true ∧ headB (slashB s) (m.drop 1) = true) := by
  match m with
  | [] => rw [(even_empty s []).2 rfl]; simp [headB, List.isPrefixOf]
  | [c] =>
    rw [even_cons, (even_empty s []).2 rfl]
    simp [headB, List.isPrefixOf]
  | c :: d :: m =>
    rw [even_cons, even_cons]
    simp only [List.isPrefixOf, Bool.and_true, Bool.and_eq_true, beq_iff_eq, headB, List.drop_succ_cons, List.drop_zero]
    constructor
    · rintro ⟨h1, h2⟩
      refine ⟨?_, ?_⟩
      · cases hc : slashB s c with
        | true => rfl
        | false => rw [hc] at h1; exact absurd h1.symm (nonslash_ne s c hc)
      · cases hc : slashB s d with
        | true => rfl
        | false => rw [hc] at h2; exact absurd h2.symm (nonslash_ne s d hc)
    · rintro ⟨h1, h2⟩
      simp [h1, h2]
theorem drop_two (s : Bs) : ∀ m : Bs, (evenSlashes s m).drop 1 = evenSlashes s (m.drop 1)
  | [] => by rw [(even_empty s []).2 rfl]; exact ((even_empty s []).2 rfl).symm
  | c :: m => by rw [even_cons]; rfl
theorem trimSlashes_cons (l : Bs) : trimSlashes (47 :: l) = trimSlashes l := by simp [trimSlashes]

theorem runs_rel (hm2 : HostMarks H) (b : Adr) (c : Mc) (m : Bs) (q f : Option Bs) (hq : ∀ x, q = some x → ∀ b ∈ x, b ≠ 35) (he : c.err = 0) (hst : c.st = 1) (hr : c.r = m ++ tailB q f) (hm : noMark m) (hw : c.u.way = ⟨false, [], []⟩) (hu : c.u.query = none) (hfr : c.u.frag = none) (hbw : b.way.opaq = false ∧ b.way.text = []) :
    Runs H (some b) c (match readRelative H c.u.scheme (evenSlashes c.u.scheme m) (q.map (esc (querySet c.u.scheme))) b with | .error e => .error e | .ok (a, w, q2) => .ok ⟨c.u.scheme, a, w, q2, f.map (esc 1)⟩) := by
  refine runs_step H (some b) c _ (by rw [hst]; decide) he ?_
  have e : mstep H (some b) c = relStep b c := by simp [mstep, hst]
  rw [e]
  unfold relStep readRelative
  rw [hr, head_tail]
  have hfin : ∀ (a : Auth) (w : Way), fin { c.u with auth := a, way := w } q f = ⟨c.u.scheme, a, w, q.map (esc (querySet c.u.scheme)), f.map (esc 1)⟩ := by
    intro a w
    unfold fin
    simp only [hu, hfr]
    cases q <;> cases f <;> rfl
  cases hh : headB (slashB c.u.scheme) m with
  | false =>
    rw [if_neg (by simp)]
    rw [if_neg (show ¬ List.isPrefixOf [47, 47] (evenSlashes c.u.scheme m) = true from fun h => by have := ((two_even _ _).1 h).1; rw [hh] at this; cases this), if_neg (show ¬ (evenSlashes c.u.scheme m).head? = some 47 from fun h => by have := (head_even _ _).1 h; rw [hh] at this; cases this)]
    have := runs_taken H (some b) b { c with u := { c.u with auth := b.auth }, r := m ++ tailB q f } m q f hq he rfl hm hh hw hu hfr hbw
    exact this
  | true =>
    rw [if_pos rfl]
    obtain ⟨d, l, rfl⟩ : ∃ d l, m = d :: l := by
      cases m with
      | nil => cases hh
      | cons d l => exact ⟨d, l, rfl⟩
    have hml : noMark l := fun x hx => hm x (by simp [hx])
    refine runs_step H (some b) _ _ (by simp) he ?_
    have e2 : mstep H (some b) { c with r := ((d :: l) ++ tailB q f).drop 1, st := 2 } = slashStep b { c with r := l ++ tailB q f, st := 2 } := by simp [mstep]
    rw [e2]
    unfold slashStep
    simp only [head_tail]
    cases h2 : headB (slashB c.u.scheme) l with
    | true =>
      rw [if_pos rfl]
      rw [if_pos (show List.isPrefixOf [47, 47] (evenSlashes c.u.scheme (d :: l)) = true from (two_even _ _).2 ⟨hh, h2⟩)]
      obtain ⟨x, y, rfl⟩ : ∃ x y, l = x :: y := by
        cases l with
        | nil => cases h2
        | cons x y => exact ⟨x, y, rfl⟩
      have ed : (evenSlashes c.u.scheme (d :: x :: y)).drop 2 = evenSlashes c.u.scheme y := by
        rw [even_cons, even_cons]; rfl
      have ex : slashB c.u.scheme x = true := h2
      rw [ed]
      cases hsp : special c.u.scheme with
      | true =>
        rw [if_pos rfl]
        have := runs_ign H hm2 (some b) { c with r := (x :: y) ++ tailB q f, st := 3 } (x :: y) q f hq he rfl rfl hml hw
        simp only [even_slash c.u.scheme x ex, trimSlashes_cons] at this
        simp only [if_true]
        cases hfa : fromAuth H c.u.scheme (trimSlashes (evenSlashes c.u.scheme y)) with
        | error n => rw [hfa] at this; exact this
        | ok p => rw [hfa] at this; simp only [hfin] at this; exact this
      | false =>
        rw [if_neg (by simp)]
        have := runs_auth H hm2 (some b) { c with r := y ++ tailB q f, st := 4 } y q f hq he rfl rfl (fun z hz => hml z (by simp [hz])) hw
        simp only [Bool.false_eq_true, if_false]
        cases hfa : fromAuth H c.u.scheme (evenSlashes c.u.scheme y) with
        | error n => rw [hfa] at this; exact this
        | ok p => rw [hfa] at this; simp only [hfin] at this; exact this
    | false =>
      rw [if_neg (by simp)]
      rw [if_neg (show ¬ List.isPrefixOf [47, 47] (evenSlashes c.u.scheme (d :: l)) = true from fun h => by have := ((two_even _ _).1 h).2; simp only [List.drop_succ_cons, List.drop_zero] at this; rw [h2] at this; cases this), if_pos (show (evenSlashes c.u.scheme (d :: l)).head? = some 47 from (head_even _ _).2 hh)]
      have := runs_segs H (some b) q f hq l.length { c with u := { c.u with auth := b.auth }, r := l ++ tailB q f, st := 6 } l (Nat.le_refl _) he rfl rfl hml
      have e3 : readWay c.u.scheme [] (evenSlashes c.u.scheme (d :: l)) = ⟨false, [], segLoop c.u.scheme c.u.way.segs (splitOn 47 (evenSlashes c.u.scheme l))⟩ := by
        unfold readWay readSegs
        rw [if_neg (fun h => even_nil _ _ (by simp) h.1), trim_even, if_pos hh, hw]
        rfl
      simp only
      rw [e3, ← hfin]
      exact this
end
end Go.Moor
/-
  Plain mathematics: the machine at files, and from a text's beginning: it comes to readAddr.
-/
namespace Go.Moor
open Go

section
variable (H : Bs → Bool → Option Bs)

theorem drives_even (s l : Bs) (hs : special s = true) (q f : Option Bs) (hm : noMark l) : drivesB (l ++ tailB q f) = isDrive (cutSlash (evenSlashes s l)).1 := by
  rw [even_cut]
  show drivesB (l ++ tailB q f) = isDrive (l.takeWhile fun c => !slashB s c)
  have hsl : ∀ c : UInt8, slashB s c = (c == 47 || c == 92) := fun c => by simp [slashB, hs]
  have hlet : ∀ c, isLetter c = true → slashB s c = false := fun c hc => by
    have := letter_out c hc
    rw [hsl]
    simp [this.2.1, this.2.2.1]
  have hcol : ∀ b : UInt8, (b == 58 || b == 124) = true → slashB s b = false := fun b hb => by
    simp only [Bool.or_eq_true, beq_iff_eq] at hb
    rw [hsl]
    rcases hb with rfl | rfl <;> decide
  have hno : ∀ x : Bs, isDrive x = true → ∃ a b, x = [a, b] ∧ isLetter a = true ∧ (b == 58 || b == 124) = true := by
    intro x hx
    match x, hx with
    | [a, b], hx =>
      simp only [isDrive, Bool.and_eq_true] at hx
      exact ⟨a, b, rfl, hx.1, hx.2⟩
  unfold drivesB
  match l, hm with
  | [], _ =>
    show _ = false
    cases hd : isDrive (List.take 2 ([] ++ tailB q f)) with
    | false => rfl
    | true =>
      obtain ⟨a, b, h1, h2, _⟩ := hno _ hd
      cases ht : tailB q f with
      | nil => rw [ht] at h1; cases h1
      | cons c r =>
        have hc := tail_head q f c r ht
        rw [ht] at h1
        simp only [List.nil_append, List.take_succ_cons, List.cons.injEq] at h1
        rw [h1.1] at hc
        simp only [markB, Bool.or_eq_true, beq_iff_eq] at hc
        rcases hc with rfl | rfl <;> exact absurd h2 (by decide)
  | [x], hm =>
    have h2 : isDrive ([x].takeWhile fun c => !slashB s c) = false := by
      cases hx : slashB s x <;> simp [hx, isDrive]
    rw [h2]
    cases hd : isDrive (List.take 2 ([x] ++ tailB q f)) with
    | false => rfl
    | true =>
      obtain ⟨a, b, h1, _, h3⟩ := hno _ hd
      cases ht : tailB q f with
      | nil => rw [ht] at h1; cases h1
      | cons c r =>
        have hc := tail_head q f c r ht
        rw [ht] at h1
        simp only [List.cons_append, List.nil_append, List.take_succ_cons, List.take_zero, List.cons.injEq] at h1
        rw [h1.2.1] at hc
        simp only [markB, Bool.or_eq_true, beq_iff_eq] at hc
        rcases hc with rfl | rfl <;> exact absurd h3 (by decide)
  | x :: y :: l, hm =>
    have e1 : List.take 2 ((x :: y :: l) ++ tailB q f) = [x, y] := rfl
    have e2 : List.drop 2 ((x :: y :: l) ++ tailB q f) = l ++ tailB q f := rfl
    rw [e1, e2]
    cases hd : isDrive [x, y] with
    | false =>
      rw [Bool.false_and]
      cases hd2 : isDrive (List.takeWhile (fun c => !slashB s c) (x :: y :: l)) with
      | false => rfl
      | true =>
        obtain ⟨a, b, h1, h2, h3⟩ := hno _ hd2
        have hx : slashB s x = false := by
          cases hx : slashB s x with
          | false => rfl
          | true => simp [hx] at h1
        have hy : slashB s y = false := by
          cases hy : slashB s y with
          | false => rfl
          | true => simp [hx, hy] at h1
        simp only [List.takeWhile_cons, hx, hy, Bool.not_false, if_true, List.cons.injEq] at h1
        rw [h1.1, h1.2.1] at hd
        simp only [isDrive, h2, h3, Bool.and_true] at hd
        cases hd
    | true =>
      rw [Bool.true_and]
      obtain ⟨a, b, h1, h2, h3⟩ := hno _ hd
      simp only [List.cons.injEq, and_true] at h1
      obtain ⟨rfl, rfl⟩ := h1
      have ex : List.takeWhile (fun c => !slashB s c) (x :: y :: l) = x :: y :: l.takeWhile (fun c => !slashB s c) := by
        simp [hlet x h2, hcol y h3]
      rw [ex]
      cases l with
      | nil =>
        show _ = isDrive [x, y]
        rw [hd]
        cases ht : tailB q f with
        | nil => rfl
        | cons c r =>
          have hc := tail_head q f c r ht
          simp only [markB, Bool.or_eq_true, beq_iff_eq] at hc
          rw [List.nil_append, List.all_eq_true]
          intro _ _
          rcases hc with rfl | rfl <;> rfl
      | cons z l =>
        have hz := hm z (by simp)
        cases hsz : slashB s z with
        | true =>
          have : List.takeWhile (fun c => !slashB s c) (z :: l) = [] := by simp [hsz]
          rw [this, hd, List.all_eq_true]
          intro _ _
          rw [hsl] at hsz
          simp only [headB, List.cons_append, hsz, Bool.true_or]
        | false =>
          have : List.takeWhile (fun c => !slashB s c) (z :: l) = z :: l.takeWhile (fun c => !slashB s c) := by simp [hsz]
          rw [this]
          show _ = false
          rw [hsl] at hsz
          simp only [headB, List.cons_append, List.all_cons, hsz, Bool.false_or]
          simp [hz.1, hz.2]

theorem file_head (m : Bs) (s : Bs) (h : isDrive (cutSlash (evenSlashes s m)).1 = true) : headB (slashB s) m = false := by
  rw [even_cut] at h
  cases m with
  | nil => rfl
  | cons c m =>
    cases hc : slashB s c with
    | false => exact hc
    | true => simp [hc, isDrive] at h

theorem runs_file (base : Option Adr) (hb : ∀ b, base = some b → Good H b) (c : Mc) (m : Bs) (q f : Option Bs) (hq : ∀ x, q = some x → ∀ b ∈ x, b ≠ 35) (he : c.err = 0) (hst : c.st = 8) (hr : c.r = m ++ tailB q f) (hm : noMark m) (hu : c.u = ⟨sFile, noAuth, ⟨false, [], []⟩, none, none⟩) :
    Runs H base c (match readFile H (evenSlashes sFile m) (q.map (esc (querySet sFile))) (fileBase base) with | .error e => .error e | .ok (a, w, q2) => .ok ⟨sFile, a, w, q2, f.map (esc 1)⟩) := by
  have hsp : special sFile = true := by decide
  obtain ⟨u, r, st, err⟩ := c
  simp only at he hst hr hu
  subst he; subst hst; subst hr; subst hu
  have hfin : ∀ (a : Auth) (w : Way), fin ⟨sFile, a, w, none, none⟩ q f = ⟨sFile, a, w, q.map (esc (querySet sFile)), f.map (esc 1)⟩ := by
    intro a w
    unfold fin
    cases q <;> cases f <;> rfl
  have hsegs := fun (a : Auth) (segs : List Bs) (l : Bs) (hl : noMark l) => runs_segs H base q f hq l.length ⟨⟨sFile, a, ⟨false, [], segs⟩, none, none⟩, l ++ tailB q f, 6, 0⟩ l (Nat.le_refl _) rfl rfl rfl hl
  refine runs_step H base _ _ (by simp) rfl ?_
  have e : mstep H base ⟨⟨sFile, noAuth, ⟨false, [], []⟩, none, none⟩, m ++ tailB q f, 8, 0⟩ = fileStep base ⟨⟨sFile, noAuth, ⟨false, [], []⟩, none, none⟩, m ++ tailB q f, 8, 0⟩ := by simp [mstep]
  rw [e]
  unfold fileStep
  simp only [head_tail]
  cases hh : headB (slashB sFile) m with
  | true =>
    rw [if_pos rfl]
    obtain ⟨d, l, rfl⟩ : ∃ d l, m = d :: l := by
      cases m with
      | nil => cases hh
      | cons d l => exact ⟨d, l, rfl⟩
    have hml : noMark l := fun x hx => hm x (by simp [hx])
    have htr : trimSlash (evenSlashes sFile (d :: l)) = evenSlashes sFile l := by rw [trim_even, if_pos hh]; rfl
    have hway : ∀ segs, readWay sFile segs (evenSlashes sFile (d :: l)) = ⟨false, [], segLoop sFile segs (splitOn 47 (evenSlashes sFile l))⟩ := by
      intro segs
      unfold readWay readSegs
      rw [if_neg (fun h => even_nil _ _ (by simp) h.1), htr]
    refine runs_step H base _ _ (by simp) rfl ?_
    have e2 : mstep H base ⟨⟨sFile, { noAuth with has := true }, ⟨false, [], []⟩, none, none⟩, List.drop 1 ((d :: l) ++ tailB q f), 9, 0⟩ = fileSlashStep base ⟨⟨sFile, { noAuth with has := true }, ⟨false, [], []⟩, none, none⟩, l ++ tailB q f, 9, 0⟩ := by simp [mstep]
    rw [e2]
    unfold fileSlashStep
    simp only [head_tail]
    cases h2 : headB (slashB sFile) l with
    | true =>
      rw [if_pos rfl]
      obtain ⟨x, y, rfl⟩ : ∃ x y, l = x :: y := by
        cases l with
        | nil => cases h2
        | cons x y => exact ⟨x, y, rfl⟩
      have hmy : noMark y := fun z hz => hml z (by simp [hz])
      have ed : (evenSlashes sFile (d :: x :: y)).drop 2 = evenSlashes sFile y := by rw [even_cons, even_cons]; rfl
      unfold readFile
      rw [if_pos (show List.isPrefixOf [47, 47] (evenSlashes sFile (d :: x :: y)) = true from (two_even _ _).2 ⟨hh, h2⟩)]
      simp only [ed, even_cut]
      refine runs_step H base _ _ (by simp) rfl ?_
      have e3 : mstep H base ⟨⟨sFile, { noAuth with has := true }, ⟨false, [], []⟩, none, none⟩, List.drop 1 ((x :: y) ++ tailB q f), 10, 0⟩ = fileHostStep H ⟨⟨sFile, { noAuth with has := true }, ⟨false, [], []⟩, none, none⟩, y ++ tailB q f, 10, 0⟩ := by simp [mstep]
      rw [e3]
      unfold fileHostStep
      have hut := until_tail sFile y q f hmy
      simp only [hut.1, hut.2]
      have hts := take_slash sFile y
      cases hd : isDrive (y.takeWhile fun c => !slashB sFile c) with
      | true =>
        simp only [if_true]
        have hdr : isDrive (cutSlash (evenSlashes sFile y)).1 = true := by rw [even_cut]; exact hd
        have hhd := file_head y sFile hdr
        have e4 : readWay sFile [] (evenSlashes sFile y) = ⟨false, [], segLoop sFile [] (splitOn 47 (evenSlashes sFile y))⟩ := by
          unfold readWay readSegs
          rw [if_neg (fun h => by rw [hsp] at h; cases h.2), trim_even, if_neg (by simp [hhd])]
        have := hsegs (fileAuth []) [] y hmy
        rw [e4, ← hfin]
        exact this
      | false =>
        simp only [Bool.false_eq_true, if_false]
        cases hfh : fileHost H (y.takeWhile fun c => !slashB sFile c) with
        | none => exact runs_err H base _ 4 rfl (by decide)
        | some h =>
          have := runs_path H base ⟨⟨sFile, fileAuth h, ⟨false, [], []⟩, none, none⟩, y.dropWhile (fun c => !slashB sFile c) ++ tailB q f, 5, 0⟩ _ q f hq rfl rfl rfl (fun x hx => hmy x (by rw [hts.2]; exact List.mem_append_right _ hx)) rfl
          simp only
          rw [← hfin]
          exact this
    | false =>
      rw [if_neg (by simp)]
      unfold readFile
      rw [if_neg (show ¬ List.isPrefixOf [47, 47] (evenSlashes sFile (d :: l)) = true from fun h => by have := ((two_even _ _).1 h).2; simp only [List.drop_succ_cons, List.drop_zero] at this; rw [h2] at this; cases this)]
      cases hfb : fileBase base with
      | none =>
        simp only
        have := hsegs (fileAuth []) [] l hml
        rw [hway, ← hfin]
        exact this
      | some b =>
        simp only
        rw [htr, drives_even sFile l hsp q f hml]
        cases hd : isDrive (cutSlash (evenSlashes sFile l)).1 with
        | true =>
          simp only [if_true, List.append_nil]
          have := hsegs (fileAuth b.auth.host) [] l hml
          rw [hway, ← hfin]
          exact this
        | false =>
          simp only [Bool.false_eq_true, if_false, List.nil_append]
          rw [if_pos (show (evenSlashes sFile (d :: l)).head? = some 47 from (head_even _ _).2 hh)]
          have := hsegs (fileAuth b.auth.host) (driveOf b.way.segs) l hml
          simp only
          rw [hway, ← hfin]
          exact this
  | false =>
    rw [if_neg (by simp)]
    unfold readFile
    rw [if_neg (show ¬ List.isPrefixOf [47, 47] (evenSlashes sFile m) = true from fun h => by have := ((two_even _ _).1 h).1; rw [hh] at this; cases this)]
    have hway : ∀ segs, readWay sFile segs (evenSlashes sFile m) = ⟨false, [], segLoop sFile segs (splitOn 47 (evenSlashes sFile m))⟩ := by
      intro segs
      unfold readWay readSegs
      rw [if_neg (fun h => by rw [hsp] at h; cases h.2), trim_even, if_neg (by simp [hh])]
    have htr : trimSlash (evenSlashes sFile m) = evenSlashes sFile m := by rw [trim_even, if_neg (by simp [hh])]
    cases hfb : fileBase base with
    | none =>
      simp only
      have := hsegs (fileAuth []) [] m hm
      rw [hway, ← hfin]
      exact this
    | some b =>
      have hgb : Good H b ∧ b.scheme = sFile := by
        cases base with
        | none => cases hfb
        | some d =>
          have hfb : (if d.scheme = sFile then some d else none) = some b := hfb
          split at hfb
          · rename_i hds
            simp only [Option.some.injEq] at hfb
            subst hfb
            exact ⟨hb d rfl, hds⟩
          · cases hfb
      have hbo := (hgb.1.spec (by rw [hgb.2]; exact hsp)).2.1
      have hbt := (hgb.1.text hbo).1
      simp only
      rw [htr, drives_even sFile m hsp q f hm]
      cases hd : isDrive (cutSlash (evenSlashes sFile m)).1 with
      | true =>
        have hne : ¬ (m ++ tailB q f = [] ∨ headB markB (m ++ tailB q f) = true) := by
          cases m with
          | nil => rw [(even_empty sFile []).2 rfl] at hd; cases hd
          | cons x y =>
            have hx := hm x (by simp)
            simp [headB, markB, hx.1, hx.2]
        rw [if_pos ⟨hne, rfl⟩, if_pos rfl]
        have := hsegs (fileAuth b.auth.host) [] m hm
        simp only
        rw [hway, ← hfin]
        exact this
      | false =>
        rw [if_neg (fun h => by cases h.2), if_neg (by simp), if_neg (show ¬ (evenSlashes sFile m).head? = some 47 from fun h => by have := (head_even _ _).1 h; rw [hh] at this; cases this)]
        have := runs_taken H base b ⟨⟨sFile, fileAuth b.auth.host, ⟨false, [], []⟩, none, none⟩, m ++ tailB q f, 8, 0⟩ m q f hq rfl rfl hm hh rfl rfl rfl ⟨hbo, hbt⟩
        exact this

-- from a text's beginning
def kindOf (base : Option Adr) (s : Bs) : Nat :=
  if s = sFile then 8 else if special s = true then (if base.any (fun b => decide (b.scheme = s)) = true then 1 else 3) else 15
def newAdr (s : Bs) : Adr := ⟨s, noAuth, ⟨false, [], []⟩, none, none⟩
def startOf (base : Option Adr) (s rest : Bs) : Mc := ⟨newAdr s, rest, (if s = [] then 14 else kindOf base s), 0⟩

theorem cutOpt_join (c : UInt8) (t : Bs) : t = (cutOpt c t).1 ++ tellOpt c (cutOpt c t).2 := by
  have h := cutB_inv c t
  unfold cutOpt
  cases hc : cutB c t with
  | none => show t = t ++ []; simp
  | some p => rw [hc] at h; exact h.1
theorem cutMarks_rest (t : Bs) : (cutScheme t).2 = (cutMarks t).middle ++ tailB (cutMarks t).query (cutMarks t).frag := by
  have h1 := cutOpt_join 35 (cutScheme t).2
  have h2 := cutOpt_join 63 (cutOpt 35 (cutScheme t).2).1
  show _ = (cutOpt 63 (cutOpt 35 (cutScheme t).2).1).1 ++ (tellOpt 63 (cutOpt 63 (cutOpt 35 (cutScheme t).2).1).2 ++ tellOpt 35 (cutOpt 35 (cutScheme t).2).2)
  rw [← List.append_assoc, ← h2, ← h1]
theorem cutMarks_query (t : Bs) : ∀ x, (cutMarks t).query = some x → ∀ b ∈ x, b ≠ 35 := by
  intro x hx b hb
  have h1 := (cutOpt_bytes 63 (cutOpt 35 (cutScheme t).2).1).2 x hx b hb
  exact ((cutOpt_bytes 35 (cutScheme t).2).1 b h1).2

theorem runs_read (hm2 : HostMarks H) (t : Bs) (base : Option Adr) (hb : ∀ b, base = some b → Good H b) : Runs H base (startOf base (cutScheme (stripB t)).1 (cutScheme (stripB t)).2) (readAddr H t base) := by
  rw [cutMarks_rest]
  have hcs : (cutScheme (stripB t)).1 = (cutMarks (stripB t)).scheme := rfl
  have hq := cutMarks_query (stripB t)
  have hm := (cutMarks_good (stripB t)).2
  rw [hcs]
  unfold readAddr
  generalize cutMarks (stripB t) = k at *
  obtain ⟨s, m, q, f⟩ := k
  simp only at hq hm ⊢
  have hm : noMark m := hm
  have hfin : ∀ (s : Bs) (a : Auth) (w : Way), fin ⟨s, a, w, none, none⟩ q f = ⟨s, a, w, q.map (esc (querySet s)), f.map (esc 1)⟩ := by
    intro s a w
    unfold fin
    cases q <;> cases f <;> rfl
  unfold startOf readCuts
  simp only
  by_cases hs : s = []
  · subst hs
    rw [if_pos rfl, if_neg (by simp)]
    refine runs_step H base _ _ (by simp) rfl ?_
    have e : mstep H base ⟨newAdr [], m ++ tailB q f, 14, 0⟩ = nsStep base ⟨newAdr [], m ++ tailB q f, 14, 0⟩ := by simp [mstep]
    rw [e]
    unfold nsStep
    cases base with
    | none => exact runs_err H none _ 3 rfl (by decide)
    | some b =>
      have hg := hb b rfl
      simp only
      cases ho : b.way.opaq with
      | true =>
        simp only [true_and, if_true]
        by_cases hx : m = [] ∧ q = none ∧ f.isSome = true
        · obtain ⟨rfl, rfl, hfs⟩ := hx
          obtain ⟨y, rfl⟩ : ∃ y, f = some y := by cases f with | none => cases hfs | some y => exact ⟨y, rfl⟩
          rw [if_neg (by simp [tailB, tellOpt]), if_pos ⟨rfl, rfl, rfl⟩]
          have := runs_mark H (some b) ⟨{ newAdr [] with scheme := b.scheme, way := b.way, query := b.query }, tailB none (some y), 14, 0⟩ none (some y) rfl rfl (fun x hx => by cases hx)
          have hnb : b.auth = noAuth := hg.bare (hg.opaq ho).1
          have e2 : ({ b with frag := Option.map (esc 1) (some y) } : Adr) = fin { newAdr [] with scheme := b.scheme, way := b.way, query := b.query } none (some y) := by
            unfold fin newAdr
            simp only [Option.map_some, hnb]
          rw [e2]
          exact this
        · rw [if_neg (show ¬ (m = [] ∧ q = none ∧ f.isSome = true) from hx)]
          rw [if_pos]
          · exact runs_err H (some b) _ 3 rfl (by decide)
          · intro h
            apply hx
            cases m with
            | cons x y => simp at h; exact absurd h (hm x (by simp)).1
            | nil =>
              rcases tail_nil q f with ht | ⟨l, ht, _⟩ | ⟨l, ht, hqn⟩
              · rw [ht] at h; cases h
              · rw [ht] at h; simp at h
              · subst hqn
                refine ⟨rfl, rfl, ?_⟩
                cases f with
                | none => cases ht
                | some y => rfl
      | false =>
        simp only [Bool.false_eq_true, false_and, if_false]
        unfold readMarked readMiddle
        by_cases hsf : b.scheme = sFile
        · rw [if_pos hsf, if_pos hsf]
          have hfb : fileBase (some b) = some b := by unfold fileBase; simp [hsf]
          have := runs_file H (some b) hb ⟨newAdr sFile, m ++ tailB q f, 8, 0⟩ m q f hq rfl rfl rfl hm rfl
          rw [hfb] at this
          rw [hsf]
          cases hx : readFile H (evenSlashes sFile m) (q.map (esc (querySet sFile))) (some b) with
          | error n => rw [hx] at this; exact this
          | ok p => rw [hx] at this; exact this
        · rw [if_neg hsf, if_neg hsf]
          have := runs_rel H hm2 b ⟨newAdr b.scheme, m ++ tailB q f, 1, 0⟩ m q f hq rfl rfl rfl hm rfl rfl rfl ⟨ho, (hg.text ho).1⟩
          simp only
          have this : Runs H (some b) ⟨newAdr b.scheme, m ++ tailB q f, 1, 0⟩ (match readRelative H b.scheme (evenSlashes b.scheme m) (q.map (esc (querySet b.scheme))) b with | .error e => .error e | .ok (a, w, q2) => .ok ⟨b.scheme, a, w, q2, f.map (esc 1)⟩) := this
          cases hx : readRelative H b.scheme (evenSlashes b.scheme m) (q.map (esc (querySet b.scheme))) b with
          | error n => rw [hx] at this; exact this
          | ok p => rw [hx] at this; exact this
  · rw [if_neg hs, if_pos hs]
    unfold readMarked readMiddle
    by_cases hsf : s = sFile
    · subst hsf
      have hk : kindOf base sFile = 8 := by unfold kindOf; rw [if_pos rfl]
      rw [hk, if_pos rfl]
      have hfb : (base.bind fun b => if b.scheme = sFile ∧ special sFile = true then some b else none) = fileBase base := by
        unfold fileBase
        cases base with
        | none => rfl
        | some b => simp [file_special]
      rw [hfb]
      have := runs_file H base hb ⟨newAdr sFile, m ++ tailB q f, 8, 0⟩ m q f hq rfl rfl rfl hm rfl
      cases hx : readFile H (evenSlashes sFile m) (q.map (esc (querySet sFile))) (fileBase base) with
      | error n => rw [hx] at this; exact this
      | ok p => rw [hx] at this; exact this
    · rw [if_neg hsf]
      cases hsp : special s with
      | true =>
        cases hbs : base.any (fun b => decide (b.scheme = s)) with
        | true =>
          obtain ⟨b, rfl, hsame⟩ : ∃ b, base = some b ∧ b.scheme = s := by
            cases base with
            | none => cases hbs
            | some b => exact ⟨b, rfl, by simpa using hbs⟩
          have hk : kindOf (some b) s = 1 := by
            unfold kindOf
            rw [if_neg hsf, if_pos hsp, if_pos hbs]
          have hg := hb b rfl
          have ho := (hg.spec (by rw [hsame]; exact hsp)).2.1
          rw [hk]
          have hbn : (Option.bind (some b) fun b => if b.scheme = s ∧ true = true then some b else none) = some b := by simp [hsame]
          rw [hbn]
          simp only
          have this := runs_rel H hm2 b ⟨newAdr s, m ++ tailB q f, 1, 0⟩ m q f hq rfl rfl rfl hm rfl rfl rfl ⟨ho, (hg.text ho).1⟩
          have this : Runs H (some b) ⟨newAdr s, m ++ tailB q f, 1, 0⟩ (match readRelative H s (evenSlashes s m) (q.map (esc (querySet s))) b with | .error e => .error e | .ok (a, w, q2) => .ok ⟨s, a, w, q2, f.map (esc 1)⟩) := this
          cases hx : readRelative H s (evenSlashes s m) (q.map (esc (querySet s))) b with
          | error n => rw [hx] at this; exact this
          | ok p => rw [hx] at this; exact this
        | false =>
          have hk : kindOf base s = 3 := by
            unfold kindOf
            rw [if_neg hsf, if_pos hsp, if_neg (by simp [hbs])]
          have hbn : (base.bind fun b => if b.scheme = s ∧ true = true then some b else none) = none := by
            cases base with
            | none => rfl
            | some b => simp at hbs; simp [hbs]
          rw [hk, hbn]
          simp only [if_true]
          have this := runs_ign H hm2 base ⟨newAdr s, m ++ tailB q f, 3, 0⟩ m q f hq rfl rfl rfl hm rfl
          have this : Runs H base ⟨newAdr s, m ++ tailB q f, 3, 0⟩ (match fromAuth H s (trimSlashes (evenSlashes s m)) with | .error e => .error e | .ok (a, w) => .ok (fin ⟨s, a, w, none, none⟩ q f)) := this
          cases hx : fromAuth H s (trimSlashes (evenSlashes s m)) with
          | error n => rw [hx] at this; exact this
          | ok p =>
            rw [hx] at this
            simp only [hfin] at this
            exact this
      | false =>
        have hk : kindOf base s = 15 := by
          unfold kindOf
          rw [if_neg hsf, if_neg (by simp [hsp])]
        have hbn : (base.bind fun b => if b.scheme = s ∧ false = true then some b else none) = none := by
          cases base with
          | none => rfl
          | some b => simp
        rw [hk, hbn, even_none s m hsp]
        simp only [Bool.false_eq_true, if_false]
        have this := runs_none H hm2 base ⟨newAdr s, m ++ tailB q f, 15, 0⟩ m q f hq rfl rfl rfl hm rfl rfl hsp
        have this : Runs H base ⟨newAdr s, m ++ tailB q f, 15, 0⟩ (match readOther H s m with | .error e => .error e | .ok (a, w) => .ok (fin ⟨s, a, w, none, none⟩ q f)) := this
        cases hx : readOther H s m with
        | error n => rw [hx] at this; exact this
        | ok p =>
          rw [hx] at this
          simp only [hfin] at this
          exact this
end
end Go.Moor
