/-
  Plain functions on lists of bytes: an address, cut at its marks, read beside another one, and told; no program is named here. What hosts are is handed in (H).
-/
import Derived.Test.YtkcnageeamappaaDoorHPlain
namespace Go.Moor
open Go

abbrev Bs := List UInt8

/-- User, password, whether there is a host, the host, the port (-1: none). -/
structure Auth where
  user : Bs
  pass : Bs
  has : Bool
  host : Bs
  port : Int

/-- A path is a text, if it is opaque, and else segments. -/
structure Way where
  opaq : Bool
  text : Bs
  segs : List Bs

structure Adr where
  scheme : Bs
  auth : Auth
  way : Way
  query : Option Bs
  frag : Option Bs

/-- A text, cut at its marks. -/
structure Cuts where
  scheme : Bs
  middle : Bs
  query : Option Bs
  frag : Option Bs

def noAuth : Auth := ⟨[], [], false, [], -1⟩

-- schemes
def isLetter (c : UInt8) : Bool := (decide (65 ≤ c.toNat) && decide (c.toNat ≤ 90)) || (decide (97 ≤ c.toNat) && decide (c.toNat ≤ 122))
def schemeByte (c : UInt8) : Bool := isLetter c || (decide (48 ≤ c.toNat) && decide (c.toNat ≤ 57)) || c == 43 || c == 45 || c == 46
def begLetter : Bs → Bool
  | [] => false
  | c :: _ => isLetter c
def isSchemeB (l : Bs) : Bool := begLetter l && l.all schemeByte

def sHttp : Bs := [104, 116, 116, 112]
def sHttps : Bs := [104, 116, 116, 112, 115]
def sWs : Bs := [119, 115]
def sWss : Bs := [119, 115, 115]
def sFtp : Bs := [102, 116, 112]
def sFile : Bs := [102, 105, 108, 101]

def ownPort (s : Bs) : Int × Bool :=
  if s = sHttp ∨ s = sWs then (80, true)
  else if s = sHttps ∨ s = sWss then (443, true)
  else if s = sFtp then (21, true)
  else if s = sFile then (-1, true)
  else (-1, false)
def special (s : Bs) : Bool := (ownPort s).2
def querySet (s : Bs) : Int := if special s then 3 else 2

-- cutting
def cutB (c : UInt8) : Bs → Option (Bs × Bs)
  | [] => none
  | b :: l => if b = c then some ([], l) else (cutB c l).map fun p => (b :: p.1, p.2)

def cutScheme (t : Bs) : Bs × Bs :=
  match cutB 58 t with
  | some (n, r) => if isSchemeB n then (Lib.toLowerA n, r) else ([], t)
  | none => ([], t)

def cutOpt (c : UInt8) (t : Bs) : Bs × Option Bs :=
  match cutB c t with
  | some (a, b) => (a, some b)
  | none => (t, none)

def cutMarks (t : Bs) : Cuts :=
  let s := cutScheme t
  let f := cutOpt 35 s.2
  let q := cutOpt 63 f.1
  ⟨s.1, q.1, q.2, f.2⟩

def blankB (c : UInt8) : Bool := decide (c.toNat < 33)
def breakB (c : UInt8) : Bool := c == 9 || c == 10 || c == 13
def trimB (p : UInt8 → Bool) (l : Bs) : Bs := ((l.dropWhile p).reverse.dropWhile p).reverse
def stripB (t : Bs) : Bs := (trimB blankB t).filter fun c => !breakB c

def evenSlashes (s t : Bs) : Bs := if special s then t.map fun c => if c = 92 then 47 else c else t
/-- Up to the first slash; what is behind begins with it. -/
def cutSlash (t : Bs) : Bs × Bs := (t.takeWhile (· ≠ 47), t.dropWhile (· ≠ 47))
def trimSlash (t : Bs) : Bs := match t with | 47 :: l => l | l => l

-- paths
def dotTexts : List Bs := [[46], [37, 50, 101]]
def lowDots : Bs → Bs
  | 37 :: 50 :: 69 :: l => 37 :: 50 :: 101 :: lowDots l
  | c :: l => c :: lowDots l
  | [] => []
/-- For how many dots a segment stands: one, two, or none. -/
def dots (p : Bs) : Nat :=
  let l := lowDots p
  if l = [46] ∨ l = [37, 50, 101] then 1
  else if l = [46, 46] ∨ l = [46, 37, 50, 101] ∨ l = [37, 50, 101, 46] ∨ l = [37, 50, 101, 37, 50, 101] then 2
  else 0

def isDrive : Bs → Bool
  | [a, b] => isLetter a && (b == 58 || b == 124)
  | _ => false
def toldDrive (l : Bs) : Bool := isDrive l && l.getD 1 0 == 58

def withoutLast (s : Bs) (segs : List Bs) : List Bs :=
  if segs.length = 1 ∧ s = sFile ∧ toldDrive (segs.headD []) = true then segs else segs.dropLast
def tellSeg (s p : Bs) (first : Bool) : Bs := if first && decide (s = sFile) && isDrive p then p.take 1 ++ [58] else esc 4 p

def segLoop (s : Bs) : List Bs → List Bs → List Bs
  | segs, [] => segs
  | segs, p :: l =>
    if dots p = 0 then segLoop s (segs ++ [tellSeg s p segs.isEmpty]) l
    else segLoop s ((if dots p = 2 then withoutLast s segs else segs) ++ (if l.isEmpty then [[]] else [])) l
def readSegs (s : Bs) (begun : List Bs) (t : Bs) : List Bs :=
  if t = [] ∧ special s = false then begun else segLoop s begun (splitOn 47 (trimSlash t))
def readWay (s : Bs) (begun : List Bs) (t : Bs) : Way := ⟨false, [], readSegs s begun t⟩

-- authorities
/-- The last of a byte. -/
def cutLast (c : UInt8) (t : Bs) : Option (Bs × Bs) := (cutB c t.reverse).map fun p => (p.2.reverse, p.1.reverse)
def cutLogin (t : Bs) : Bs × Bs :=
  match cutLast 64 t with
  | some (a, b) => (a, b)
  | none => ([], t)
def brackets (t : Bs) : Nat := if t.head? = some 91 then (match cutB 93 t with | some (a, _) => a.length + 1 | none => 0) else 0
def cutPort (t : Bs) : Bs × Bs :=
  match cutB 58 (t.drop (brackets t)) with
  | some (a, b) => (t.take (brackets t) ++ a, b)
  | none => (t, [])

def decAcc : Nat → Bs → Nat
  | n, [] => n
  | n, c :: l => decAcc (n * 10 + (c.toNat - 48)) l
def isDigit (c : UInt8) : Bool := decide (48 ≤ c.toNat) && decide (c.toNat ≤ 57)
def readPort (t s : Bs) : Option Int :=
  if t = [] then some (-1)
  else if t.all isDigit && decide (decAcc 0 t ≤ 65535) then (if (decAcc 0 t : Int) = (ownPort s).1 then some (-1) else some (decAcc 0 t))
  else none

section
variable (H : Bs → Bool → Option Bs)

def tellHost (t authority s : Bs) : Option Bs := if t = [] ∧ authority ≠ [] then none else H t (special s)

/-- An authority, or the number of its error. -/
def readAuth (t s : Bs) : Except Int Auth :=
  let lp := cutLogin t
  let up := cutOpt 58 lp.1
  let hp := cutPort lp.2
  match tellHost H hp.1 t s with
  | none => .error 4
  | some h => match readPort hp.2 s with
    | none => .error 5
    | some p => .ok ⟨esc 5 up.1, esc 5 (up.2.getD []), true, h, p⟩

def fromAuth (s t : Bs) : Except Int (Auth × Way) :=
  let c := cutSlash t
  match readAuth H c.1 s with
  | .error e => .error e
  | .ok a => .ok (a, readWay s [] c.2)

-- files
def fileHost (t : Bs) : Option Bs :=
  if t = [] then some [] else match H t true with
    | none => none
    | some h => if h = [108, 111, 99, 97, 108, 104, 111, 115, 116] then some [] else some h
def fileAuth (h : Bs) : Auth := ⟨[], [], true, h, -1⟩

/-- Path and query of what goes on from a base. -/
def goOn (s m : Bs) (q : Option Bs) (base : Adr) : Way × Option Bs :=
  if m ≠ [] then (readWay s (withoutLast s base.way.segs) m, q) else (base.way, if q.isSome then q else base.query)

def driveOf (segs : List Bs) : List Bs := if segs.length > 0 ∧ toldDrive (segs.headD []) = true then segs.take 1 else []

def readFile (m : Bs) (q : Option Bs) (base : Option Adr) : Except Int (Auth × Way × Option Bs) :=
  if [47, 47].isPrefixOf m then
    let c := cutSlash (m.drop 2)
    if isDrive c.1 then .ok (fileAuth [], readWay sFile [] (m.drop 2), q)
    else match fileHost H c.1 with
      | none => .error 4
      | some h => .ok (fileAuth h, readWay sFile [] c.2, q)
  else match base with
    | none => .ok (fileAuth [], readWay sFile [] m, q)
    | some b =>
      if isDrive (cutSlash (trimSlash m)).1 then .ok (fileAuth b.auth.host, readWay sFile [] m, q)
      else if m.head? = some 47 then .ok (fileAuth b.auth.host, readWay sFile (driveOf b.way.segs) m, q)
      else let g := goOn sFile m q b
        .ok (fileAuth b.auth.host, g.1, g.2)

def trimSlashes (t : Bs) : Bs := t.dropWhile (· = 47)
def escOpaque (t : Bs) : Bs := (esc 0 t).flatMap fun c => if c = 32 then [37, 50, 48] else [c]

def readRelative (s m : Bs) (q : Option Bs) (b : Adr) : Except Int (Auth × Way × Option Bs) :=
  if [47, 47].isPrefixOf m then
    match fromAuth H s (if special s then trimSlashes (m.drop 2) else m.drop 2) with
    | .error e => .error e
    | .ok (a, w) => .ok (a, w, q)
  else if m.head? = some 47 then .ok (b.auth, readWay s [] m, q)
  else let g := goOn s m q b
    .ok (b.auth, g.1, g.2)

def readOther (s m : Bs) : Except Int (Auth × Way) :=
  if [47, 47].isPrefixOf m then fromAuth H s (m.drop 2)
  else if m.head? = some 47 then .ok (noAuth, readWay s [] m)
  else .ok (noAuth, ⟨true, escOpaque m, []⟩)

def readMiddle (s m : Bs) (q : Option Bs) (base : Option Adr) : Except Int (Auth × Way × Option Bs) :=
  if s = sFile then readFile H m q base
  else match base with
    | some b => readRelative H s m q b
    | none => match (if special s then fromAuth H s (trimSlashes m) else readOther H s m) with
      | .error e => .error e
      | .ok (a, w) => .ok (a, w, q)

def readMarked (s m : Bs) (q f : Option Bs) (base : Option Adr) : Except Int Adr :=
  match readMiddle H s (evenSlashes s m) (q.map (esc (querySet s))) base with
  | .error e => .error e
  | .ok (a, w, q2) => .ok ⟨s, a, w, q2, f.map (esc 1)⟩

def readCuts (c : Cuts) (base : Option Adr) : Except Int Adr :=
  if c.scheme ≠ [] then
    readMarked H c.scheme c.middle c.query c.frag (base.bind fun b => if b.scheme = c.scheme ∧ special c.scheme = true then some b else none)
  else match base with
    | none => .error 3
    | some b =>
      if b.way.opaq then (if c.middle = [] ∧ c.query = none ∧ c.frag.isSome then .ok { b with frag := c.frag.map (esc 1) } else .error 3)
      else readMarked H b.scheme c.middle c.query c.frag (some b)

def readAddr (t : Bs) (base : Option Adr) : Except Int Adr := readCuts H (cutMarks (stripB t)) base
def readBeside (t base : Bs) : Except Int Adr :=
  if base = [] then readAddr H t none
  else match readAddr H base none with
    | .error _ => .error 2
    | .ok b => readAddr H t (some b)
end

-- telling
def decB (p : Int) : Bs := Lib.decDigits p.toNat
def tellPlace (a : Auth) : Bs := if a.port = -1 then a.host else a.host ++ 58 :: decB a.port
def tellLogin (a : Auth) : Bs := if a.pass ≠ [] then a.user ++ 58 :: (a.pass ++ [64]) else if a.user ≠ [] then a.user ++ [64] else []
def tellAuth (a : Auth) : Bs := if a.has then 47 :: 47 :: (tellLogin a ++ tellPlace a) else []
def tellSegs (l : List Bs) : Bs := l.flatMap fun p => 47 :: p
def tellWay (w : Way) : Bs := if w.opaq then w.text else tellSegs w.segs
def guardB (a : Adr) : Bs := if a.auth.has = false ∧ 1 < a.way.segs.length ∧ a.way.segs.head? = some [] then [47, 46] else []
def tellOpt (c : UInt8) : Option Bs → Bs
  | none => []
  | some t => c :: t
def tellAddr (a : Adr) : Bs := a.scheme ++ 58 :: (tellAuth a.auth ++ (guardB a ++ (tellWay a.way ++ (tellOpt 63 a.query ++ tellOpt 35 a.frag))))

def parse (H : Bs → Bool → Option Bs) (t base : Bs) : Except Int Bs :=
  if t.length > 2000 ∨ base.length > 2000 then .error 1
  else match readBeside H t base with
    | .error e => .error e
    | .ok a => .ok (tellAddr a)
end Go.Moor
