/-
  Plain functions on lists of bytes: an address, cut at its marks, read beside another one, and told; no program is named here. What hosts are is handed in (H).
-/
import Derived.Test.YtkcnageeamappabGreatDoorJHPlain
import Derived.Shelf.GgClosure.StringsTrimFunc
import Derived.Lib.TrimUEq
import Derived.Laws.RangeAny
namespace Go.Moor
open Go

abbrev Bs := List UInt8

/-- User, password, whether there is a host, the host, the port (-1: none). -/
structure Auth where
  user : Bs
  pass : Bs
  has : Bool
  host : Bs
  port : Int

/-- A path is a text, if it is opaque, and else segments. -/
structure Way where
  opaq : Bool
  text : Bs
  segs : List Bs

structure Adr where
  scheme : Bs
  auth : Auth
  way : Way
  query : Option Bs
  frag : Option Bs

/-- A text, cut at its marks. -/
structure Cuts where
  scheme : Bs
  middle : Bs
  query : Option Bs
  frag : Option Bs

def noAuth : Auth := ⟨[], [], false, [], -1⟩

-- schemes
def isLetter (c : UInt8) : Bool := (decide (65 ≤ c.toNat) && decide (c.toNat ≤ 90)) || (decide (97 ≤ c.toNat) && decide (c.toNat ≤ 122))
def schemeByte (c : UInt8) : Bool := isLetter c || (decide (48 ≤ c.toNat) && decide (c.toNat ≤ 57)) || c == 43 || c == 45 || c == 46
def begLetter : Bs → Bool
  | [] => false
  | c :: _ => isLetter c
def isSchemeB (l : Bs) : Bool := begLetter l && l.all schemeByte

def sHttp : Bs := [104, 116, 116, 112]
def sHttps : Bs := [104, 116, 116, 112, 115]
def sWs : Bs := [119, 115]
def sWss : Bs := [119, 115, 115]
def sFtp : Bs := [102, 116, 112]
def sFile : Bs := [102, 105, 108, 101]

def ownPort (s : Bs) : Int × Bool :=
  if s = sHttp ∨ s = sWs then (80, true)
  else if s = sHttps ∨ s = sWss then (443, true)
  else if s = sFtp then (21, true)
  else if s = sFile then (-1, true)
  else (-1, false)
def special (s : Bs) : Bool := (ownPort s).2
def querySet (s : Bs) : Int := if special s then 3 else 2

-- cutting
def cutB (c : UInt8) : Bs → Option (Bs × Bs)
  | [] => none
  | b :: l => if b = c then some ([], l) else (cutB c l).map fun p => (b :: p.1, p.2)

def cutScheme (t : Bs) : Bs × Bs :=
  match cutB 58 t with
  | some (n, r) => if isSchemeB n then (Lib.toLowerA n, r) else ([], t)
  | none => ([], t)

def cutOpt (c : UInt8) (t : Bs) : Bs × Option Bs :=
  match cutB c t with
  | some (a, b) => (a, some b)
  | none => (t, none)

def cutMarks (t : Bs) : Cuts :=
  let s := cutScheme t
  let f := cutOpt 35 s.2
  let q := cutOpt 63 f.1
  ⟨s.1, q.1, q.2, f.2⟩

def blankB (c : UInt8) : Bool := decide (c.toNat < 33)
def breakB (c : UInt8) : Bool := c == 9 || c == 10 || c == 13
def trimB (p : UInt8 → Bool) (l : Bs) : Bs := ((l.dropWhile p).reverse.dropWhile p).reverse
def stripB (t : Bs) : Bs := (trimB blankB t).filter fun c => !breakB c

def evenSlashes (s t : Bs) : Bs := if special s then t.map fun c => if c = 92 then 47 else c else t
/-- Up to the first slash; what is behind begins with it. -/
def cutSlash (t : Bs) : Bs × Bs := (t.takeWhile (· ≠ 47), t.dropWhile (· ≠ 47))
def trimSlash (t : Bs) : Bs := match t with | 47 :: l => l | l => l

-- paths
def dotTexts : List Bs := [[46], [37, 50, 101]]
def lowDots : Bs → Bs
  | 37 :: 50 :: 69 :: l => 37 :: 50 :: 101 :: lowDots l
  | c :: l => c :: lowDots l
  | [] => []
/-- For how many dots a segment stands: one, two, or none. -/
def dots (p : Bs) : Nat :=
  let l := lowDots p
  if l = [46] ∨ l = [37, 50, 101] then 1
  else if l = [46, 46] ∨ l = [46, 37, 50, 101] ∨ l = [37, 50, 101, 46] ∨ l = [37, 50, 101, 37, 50, 101] then 2
  else 0

def isDrive : Bs → Bool
  | [a, b] => isLetter a && (b == 58 || b == 124)
  | _ => false
def toldDrive (l : Bs) : Bool := isDrive l && l.getD 1 0 == 58

def withoutLast (s : Bs) (segs : List Bs) : List Bs :=
  if segs.length = 1 ∧ s = sFile ∧ toldDrive (segs.headD []) = true then segs else segs.dropLast
def tellSeg (s p : Bs) (first : Bool) : Bs := if first && decide (s = sFile) && isDrive p then p.take 1 ++ [58] else esc 4 p

def segLoop (s : Bs) : List Bs → List Bs → List Bs
  | segs, [] => segs
  | segs, p :: l =>
    if dots p = 0 then segLoop s (segs ++ [tellSeg s p segs.isEmpty]) l
    else segLoop s ((if dots p = 2 then withoutLast s segs else segs) ++ (if l.isEmpty then [[]] else [])) l
def readSegs (s : Bs) (begun : List Bs) (t : Bs) : List Bs :=
  if t = [] ∧ special s = false then begun else segLoop s begun (splitOn 47 (trimSlash t))
def readWay (s : Bs) (begun : List Bs) (t : Bs) : Way := ⟨false, [], readSegs s begun t⟩

-- authorities
/-- The last of a byte. -/
def cutLast (c : UInt8) (t : Bs) : Option (Bs × Bs) := (cutB c t.reverse).map fun p => (p.2.reverse, p.1.reverse)
def cutLogin (t : Bs) : Bs × Bs :=
  match cutLast 64 t with
  | some (a, b) => (a, b)
  | none => ([], t)
def brackets (t : Bs) : Nat := if t.head? = some 91 then (match cutB 93 t with | some (a, _) => a.length + 1 | none => 0) else 0
def cutPort (t : Bs) : Bs × Bs :=
  match cutB 58 (t.drop (brackets t)) with
  | some (a, b) => (t.take (brackets t) ++ a, b)
  | none => (t, [])

def decAcc : Nat → Bs → Nat
  | n, [] => n
  | n, c :: l => decAcc (n * 10 + (c.toNat - 48)) l
def isDigit (c : UInt8) : Bool := decide (48 ≤ c.toNat) && decide (c.toNat ≤ 57)
def readPort (t s : Bs) : Option Int :=
  if t = [] then some (-1)
  else if t.all isDigit && decide (decAcc 0 t ≤ 65535) then (if (decAcc 0 t : Int) = (ownPort s).1 then some (-1) else some (decAcc 0 t))
  else none

section
variable (H : Bs → Bool → Option Bs)

def tellHost (t authority s : Bs) : Option Bs := if t = [] ∧ authority ≠ [] then none else H t (special s)

/-- An authority, or the number of its error. -/
def readAuth (t s : Bs) : Except Int Auth :=
  let lp := cutLogin t
  let up := cutOpt 58 lp.1
  let hp := cutPort lp.2
  match tellHost H hp.1 t s with
  | none => .error 4
  | some h => match readPort hp.2 s with
    | none => .error 5
    | some p => .ok ⟨esc 5 up.1, esc 5 (up.2.getD []), true, h, p⟩

def fromAuth (s t : Bs) : Except Int (Auth × Way) :=
  let c := cutSlash t
  match readAuth H c.1 s with
  | .error e => .error e
  | .ok a => .ok (a, readWay s [] c.2)

-- files
def fileHost (t : Bs) : Option Bs :=
  if t = [] then some [] else match H t true with
    | none => none
    | some h => if h = [108, 111, 99, 97, 108, 104, 111, 115, 116] then some [] else some h
def fileAuth (h : Bs) : Auth := ⟨[], [], true, h, -1⟩

/-- Path and query of what goes on from a base. -/
def goOn (s m : Bs) (q : Option Bs) (base : Adr) : Way × Option Bs :=
  if m ≠ [] then (readWay s (withoutLast s base.way.segs) m, q) else (base.way, if q.isSome then q else base.query)

def driveOf (segs : List Bs) : List Bs := if segs.length > 0 ∧ toldDrive (segs.headD []) = true then segs.take 1 else []

def readFile (m : Bs) (q : Option Bs) (base : Option Adr) : Except Int (Auth × Way × Option Bs) :=
  if [47, 47].isPrefixOf m then
    let c := cutSlash (m.drop 2)
    if isDrive c.1 then .ok (fileAuth [], readWay sFile [] (m.drop 2), q)
    else match fileHost H c.1 with
      | none => .error 4
      | some h => .ok (fileAuth h, readWay sFile [] c.2, q)
  else match base with
    | none => .ok (fileAuth [], readWay sFile [] m, q)
    | some b =>
      if isDrive (cutSlash (trimSlash m)).1 then .ok (fileAuth b.auth.host, readWay sFile [] m, q)
      else if m.head? = some 47 then .ok (fileAuth b.auth.host, readWay sFile (driveOf b.way.segs) m, q)
      else let g := goOn sFile m q b
        .ok (fileAuth b.auth.host, g.1, g.2)

def trimSlashes (t : Bs) : Bs := t.dropWhile (· = 47)
def escOpaque (t : Bs) : Bs := (esc 0 t).flatMap fun c => if c = 32 then [37, 50, 48] else [c]

def readRelative (s m : Bs) (q : Option Bs) (b : Adr) : Except Int (Auth × Way × Option Bs) :=
  if [47, 47].isPrefixOf m then
    match fromAuth H s (if special s then trimSlashes (m.drop 2) else m.drop 2) with
    | .error e => .error e
    | .ok (a, w) => .ok (a, w, q)
  else if m.head? = some 47 then .ok (b.auth, readWay s [] m, q)
  else let g := goOn s m q b
    .ok (b.auth, g.1, g.2)

def readOther (s m : Bs) : Except Int (Auth × Way) :=
  if [47, 47].isPrefixOf m then fromAuth H s (m.drop 2)
  else if m.head? = some 47 then .ok (noAuth, readWay s [] m)
  else .ok (noAuth, ⟨true, escOpaque m, []⟩)

def readMiddle (s m : Bs) (q : Option Bs) (base : Option Adr) : Except Int (Auth × Way × Option Bs) :=
  if s = sFile then readFile H m q base
  else match base with
    | some b => readRelative H s m q b
    | none => match (if special s then fromAuth H s (trimSlashes m) else readOther H s m) with
      | .error e => .error e
      | .ok (a, w) => .ok (a, w, q)

def readMarked (s m : Bs) (q f : Option Bs) (base : Option Adr) : Except Int Adr :=
  match readMiddle H s (evenSlashes s m) (q.map (esc (querySet s))) base with
  | .error e => .error e
  | .ok (a, w, q2) => .ok ⟨s, a, w, q2, f.map (esc 1)⟩

def readCuts (c : Cuts) (base : Option Adr) : Except Int Adr :=
  if c.scheme ≠ [] then
    readMarked H c.scheme c.middle c.query c.frag (base.bind fun b => if b.scheme = c.scheme ∧ special c.scheme = true then some b else none)
  else match base with
    | none => .error 3
    | some b =>
      if b.way.opaq then (if c.middle = [] ∧ c.query = none ∧ c.frag.isSome then .ok { b with frag := c.frag.map (esc 1) } else .error 3)
      else readMarked H b.scheme c.middle c.query c.frag (some b)

def readAddr (t : Bs) (base : Option Adr) : Except Int Adr := readCuts H (cutMarks (stripB t)) base
def readBeside (t base : Bs) : Except Int Adr :=
  if base = [] then readAddr H t none
  else match readAddr H base none with
    | .error _ => .error 2
    | .ok b => readAddr H t (some b)
end

-- telling
def decB (p : Int) : Bs := Lib.decDigits p.toNat
def tellPlace (a : Auth) : Bs := if a.port = -1 then a.host else a.host ++ 58 :: decB a.port
def tellLogin (a : Auth) : Bs := if a.pass ≠ [] then a.user ++ 58 :: (a.pass ++ [64]) else if a.user ≠ [] then a.user ++ [64] else []
def tellAuth (a : Auth) : Bs := if a.has then 47 :: 47 :: (tellLogin a ++ tellPlace a) else []
def tellSegs (l : List Bs) : Bs := l.flatMap fun p => 47 :: p
def tellWay (w : Way) : Bs := if w.opaq then w.text else tellSegs w.segs
def guardB (a : Adr) : Bs := if a.auth.has = false ∧ 1 < a.way.segs.length ∧ a.way.segs.head? = some [] then [47, 46] else []
def tellOpt (c : UInt8) : Option Bs → Bs
  | none => []
  | some t => c :: t
def tellAddr (a : Adr) : Bs := a.scheme ++ 58 :: (tellAuth a.auth ++ (guardB a ++ (tellWay a.way ++ (tellOpt 63 a.query ++ tellOpt 35 a.frag))))

def parse (H : Bs → Bool → Option Bs) (t base : Bs) : Except Int Bs :=
  if t.length > 2000 ∨ base.length > 2000 then .error 1
  else match readBeside H t base with
    | .error e => .error e
    | .ok a => .ok (tellAddr a)
end Go.Moor
/-
  Plain mathematics: strings.TrimFunc by 'below 33' is to trim bytes.
-/
namespace Go.Moor
open Go

def p33 (r : Nat) : Bool := decide (r < 33)

theorem decode_at_byte (s : ByteArray) (pos : Nat) (h : pos < s.size) : p33 (Utf8.decode s pos).1 = blankB (s.data.toList.getD pos 0) ∧ (blankB (s.data.toList.getD pos 0) = true → (Utf8.decode s pos).2 = 1) := by
  have hg : (s.data.toList.getD pos 0) = s[pos]'h := by
    have h2 : s.data.toList[pos]? = some (s[pos]'h) := by
      rw [List.getElem?_eq_getElem (by rw [← Lib.size_eq]; exact h)]
      rfl
    simp only [List.getD, h2, Option.getD_some]
  rw [hg]
  by_cases ha : (s[pos]'h).toNat < 128
  · rw [decode_ascii s pos h ha]
    exact ⟨rfl, fun _ => rfl⟩
  · have hh := decode_high s pos h (by omega)
    refine ⟨?_, fun hb => ?_⟩
    · unfold p33 blankB
      rw [decide_eq_false (by omega), decide_eq_false (by omega)]
    · unfold blankB at hb
      have := of_decide_eq_true hb
      omega

theorem left33 (s : ByteArray) : ∀ (f pos : Nat), s.size ≤ pos + f → (if Lib.idxFuncFrom p33 false s f pos = -1 then [] else s.data.toList.drop (Lib.idxFuncFrom p33 false s f pos).toNat) = (s.data.toList.drop pos).dropWhile blankB
  | 0, pos, h => by
    rw [show Lib.idxFuncFrom p33 false s 0 pos = -1 from rfl, if_pos rfl, List.drop_eq_nil_of_le (by rw [← Lib.size_eq]; omega)]
    rfl
  | f + 1, pos, h => by
    by_cases hp : pos < s.size
    · have hlt : pos < s.data.toList.length := by rw [← Lib.size_eq]; exact hp
      obtain ⟨h1, h2⟩ := decode_at_byte s pos hp
      have hgd : s.data.toList.getD pos 0 = s.data.toList[pos] := by simp [List.getD, List.getElem?_eq_getElem hlt]
      rw [hgd] at h1 h2
      cases hb : blankB s.data.toList[pos] with
      | true =>
        have e : Lib.idxFuncFrom p33 false s (f + 1) pos = Lib.idxFuncFrom p33 false s f (pos + 1) := by
          rw [Lib.idxFuncFrom, if_pos hp, h1, hb, if_neg (by decide), h2 hb]
        rw [e, List.drop_eq_getElem_cons hlt, List.dropWhile_cons_of_pos hb]
        exact left33 s f (pos + 1) (by omega)
      | false =>
        have e : Lib.idxFuncFrom p33 false s (f + 1) pos = (pos : Int) := by
          rw [Lib.idxFuncFrom, if_pos hp, h1, hb, if_pos rfl]
        rw [e, if_neg (by omega), Int.toNat_natCast, List.drop_eq_getElem_cons hlt, List.dropWhile_cons_of_neg (by rw [hb]; decide)]
    · rw [Lib.idxFuncFrom_end p33 false s _ pos hp, if_pos rfl, List.drop_eq_nil_of_le (by rw [← Lib.size_eq]; omega)]
      rfl
theorem trimLeft33 (s : ByteArray) : (Lib.trimLeftF p33 s).data.toList = s.data.toList.dropWhile blankB := by
  have h := left33 s s.size 0 (by omega)
  rw [List.drop_zero] at h
  rw [← h]
  unfold Lib.trimLeftF Lib.idxFunc
  split
  · rfl
  · rw [Lib.extract_data]
    refine List.take_of_length_le ?_
    rw [List.length_drop, Lib.size_eq]
    omega

theorem goB (s : ByteArray) (r : Nat) (h : r < s.size) : (Lib.decodeGoB (s.extract r s.size)).2 = (Lib.decodeL (s.data.toList.drop r)).2 := by
  unfold Lib.decodeGoB
  rw [if_neg (by rw [ByteArray.size_extract]; omega)]
  have e := Lib.decodeL_drop (s.extract r s.size) 0
  rw [List.drop_zero, Lib.extract_data, List.take_of_length_le (by rw [List.length_drop, Lib.size_eq]; omega)] at e
  rw [← e]

theorem last33 (l : Bs) (i : Nat) (hi : 0 < i) (hil : i ≤ l.length) : p33 (Lib.decodeLastL (l.take i)).1 = blankB (l.getD (i - 1) 0) ∧ (blankB (l.getD (i - 1) 0) = true → (Lib.decodeLastL (l.take i)).2 = 1) := by
  rcases Lib.last_cases l i hi hil with ⟨ha, hd⟩ | ⟨ha, hd⟩ | ⟨ha, st, hst, hd, hsum⟩
  · rw [hd]
    exact ⟨rfl, fun _ => rfl⟩
  · rw [hd]
    refine ⟨?_, fun hb => ?_⟩
    · have hb0 : blankB (l.getD (i - 1) 0) = false := by unfold blankB; exact decide_eq_false (by omega)
      rw [hb0]
      rfl
    · rfl
  · refine ⟨?_, fun hb => ?_⟩
    · have hb0 : blankB (l.getD (i - 1) 0) = false := by unfold blankB; rw [decide_eq_false (by omega)]
      rw [hb0, hd]
      have hx : ((l.take i).drop st) ≠ [] := by
        intro h0
        have := congrArg List.length h0
        rw [List.length_drop, List.length_take] at this
        simp at this
        omega
      have hsz : 0 < (⟨((l.take i).drop st).toArray⟩ : ByteArray).size := by
        rw [Lib.size_eq]
        exact List.length_pos_iff.2 hx
      obtain ⟨q1, q2⟩ := decode_at_byte ⟨((l.take i).drop st).toArray⟩ 0 hsz
      show p33 (Utf8.decode ⟨((l.take i).drop st).toArray⟩ 0).1 = false
      rw [q1]
      show blankB (((l.take i).drop st).getD 0 0) = false
      rw [Lib.getD_dropU, Nat.add_zero, Lib.getD_takeU l i st hst]
      cases hbb : blankB (l.getD st 0) with
      | false => rfl
      | true =>
        have hbb2 : blankB ((⟨((l.take i).drop st).toArray⟩ : ByteArray).data.toList.getD 0 0) = true := by
          show blankB (((l.take i).drop st).getD 0 0) = true
          rw [Lib.getD_dropU, Nat.add_zero, Lib.getD_takeU l i st hst]
          exact hbb
        have h1 := q2 hbb2
        have h2 : (Lib.decodeL ((l.take i).drop st)).2 = 1 := h1
        have h3 : st = i - 1 := by omega
        rw [h3] at hbb
        rw [hbb] at hb0
        cases hb0
    · unfold blankB at hb
      have := of_decide_eq_true hb
      omega

theorem right33 (s : ByteArray) : ∀ (f i : Nat), i ≤ f → i ≤ s.data.toList.length → Lib.OpenAt s.data.toList i →
    s.data.toList.take (if 0 ≤ Lib.lastIdxFuncFrom p33 false s f i then (Lib.lastIdxFuncFrom p33 false s f i).toNat + (Lib.decodeGoB (s.extract (Lib.lastIdxFuncFrom p33 false s f i).toNat s.size)).2 else 0) = ((s.data.toList.take i).reverse.dropWhile blankB).reverse
  | 0, i, hf, _, _ => by
    have h0 : i = 0 := by omega
    subst h0
    rfl
  | f + 1, i, hf, hil, ho => by
    by_cases hi : 0 < i
    · obtain ⟨h1, h2⟩ := last33 s.data.toList i hi hil
      have hlt : i - 1 < s.data.toList.length := by omega
      have hgd : s.data.toList.getD (i - 1) 0 = s.data.toList[i - 1] := by simp [List.getD, List.getElem?_eq_getElem hlt]
      have htk : s.data.toList.take i = s.data.toList.take (i - 1) ++ [s.data.toList[i - 1]] := by
        have := List.take_append_getElem (l := s.data.toList) (i := i - 1) hlt
        rw [show i - 1 + 1 = i by omega] at this
        exact this.symm
      rw [hgd] at h1 h2
      cases hb : blankB s.data.toList[i - 1] with
      | true =>
        have e : Lib.lastIdxFuncFrom p33 false s (f + 1) i = Lib.lastIdxFuncFrom p33 false s f (i - 1) := by
          rw [Lib.lastIdxFuncFrom, if_pos hi, h1, hb, if_neg (by decide), h2 hb]
        rw [e, htk, List.reverse_append]
        show _ = ((s.data.toList[i - 1] :: (s.data.toList.take (i - 1)).reverse).dropWhile blankB).reverse
        rw [List.dropWhile_cons_of_pos hb]
        refine right33 s f (i - 1) (by omega) (by omega) (Or.inr ?_)
        rw [hgd]
        unfold blankB at hb
        have := of_decide_eq_true hb
        omega
      | false =>
        have hw := Lib.fw_width s.data.toList i hi hil ho
        have e : Lib.lastIdxFuncFrom p33 false s (f + 1) i = ((i - (Lib.decodeLastL (s.data.toList.take i)).2 : Nat) : Int) := by
          rw [Lib.lastIdxFuncFrom, if_pos hi, h1, hb, if_pos rfl]
        rw [e, if_pos (by omega), Int.toNat_natCast, goB s _ (by
          rw [Lib.size_eq]
          have : 1 ≤ (Lib.decodeLastL (s.data.toList.take i)).2 := by rw [← hw]; exact Lib.decodeL_width _
          omega), hw]
        have hle : (Lib.decodeLastL (s.data.toList.take i)).2 ≤ i := by
          rcases Lib.last_cases s.data.toList i hi hil with ⟨_, hd⟩ | ⟨_, hd⟩ | ⟨_, st, hst, hd, hsum⟩
          · rw [hd]; exact hi
          · rw [hd]; exact hi
          · rw [hd]; omega
        rw [show i - (Lib.decodeLastL (s.data.toList.take i)).2 + (Lib.decodeLastL (s.data.toList.take i)).2 = i by omega, htk, List.reverse_append]
        show _ = ((s.data.toList[i - 1] :: (s.data.toList.take (i - 1)).reverse).dropWhile blankB).reverse
        rw [List.dropWhile_cons_of_neg (by rw [hb]; decide)]
        simp
    · have h0 : i = 0 := by omega
      subst h0
      rw [Lib.lastIdxFuncFrom_zero]
      rfl
theorem trimRight33 (s : ByteArray) : (Lib.trimRightF p33 s).data.toList = (s.data.toList.reverse.dropWhile blankB).reverse := by
  have h := right33 s s.size s.size (Nat.le_refl _) (by rw [Lib.size_eq]; exact Nat.le_refl _) (Or.inl (by rw [Lib.size_eq]))
  rw [List.take_of_length_le (l := s.data.toList) (i := s.size) (by rw [Lib.size_eq]; exact Nat.le_refl _)] at h
  rw [← h]
  unfold Lib.trimRightF Lib.rightEndF Lib.lastIdxFunc
  rw [Lib.extract_data]
  simp
theorem trim33 (s : ByteArray) : (Lib.trimF p33 s).data.toList = trimB blankB s.data.toList := by
  unfold Lib.trimF trimB
  rw [trimRight33, trimLeft33]
end Go.Moor
