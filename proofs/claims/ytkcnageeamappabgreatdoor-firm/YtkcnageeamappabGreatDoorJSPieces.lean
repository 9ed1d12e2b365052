/-
  Plain functions on lists of bytes and numbers: the pieces of an IP6, read and told, and hosts of every kind; no program is named here.
-/
import Derived.Test.YtkcnageeamappabGreatDoorJFPlain
import Derived.Laws.CopyOwn
import Derived.Laws.Rows
import Derived.Test.YtkcnageeamappabGreatDoorJLabels
import Derived.OwnWalk
namespace Go.Moor
open Go

/-- A piece of an IP6: one to four digits by base 16. -/
def sixPiece (l : List UInt8) : Option Int := if l.length < 1 ∨ 4 < l.length then none else digAcc 16 65535 0 l

/-- A number with dots at the end of an IP6: by base 10, none with a nought ahead, at most 255. -/
def plainDec (l : List UInt8) : Option Int := if l = [] then none else if l.head? = some 48 ∧ 1 < l.length then none else digAcc 10 255 0 l

theorem sixPiece_range (l : List UInt8) (n : Int) (h : sixPiece l = some n) : 0 ≤ n ∧ n ≤ 65535 := by
  unfold sixPiece at h
  split at h
  · simp at h
  · exact digAcc_range 16 65535 (by omega) l 0 n (by omega) (by omega) h
theorem plainDec_range (l : List UInt8) (n : Int) (h : plainDec l = some n) : 0 ≤ n ∧ n ≤ 255 := by
  unfold plainDec at h
  split at h
  · simp at h
  · split at h
    · simp at h
    · exact digAcc_range 10 255 (by omega) l 0 n (by omega) (by omega) h

/-- The pieces of a text: none of an empty one. -/
def sixSplit (l : List UInt8) : List (List UInt8) := if l = [] then [] else splitOn 58 l
end Go.Moor
namespace Go.Moor
open Go

/-- Pieces one behind another. -/
def sixAcc : List Int → List (List UInt8) → Option (List Int)
  | ps, [] => some ps
  | ps, x :: l => match sixPiece x with | some n => sixAcc (ps ++ [n]) l | none => none
def sixPieces (l : List (List UInt8)) : Option (List Int) := sixAcc [] l

theorem sixAcc_step (xs : List ByteArray) (q : Nat) (x : ByteArray) (ps : List Int) (hx : xs[q]? = some x) :
    sixAcc ps ((xs.map (·.data.toList)).drop q) = (match sixPiece x.data.toList with | some n => sixAcc (ps ++ [n]) ((xs.map (·.data.toList)).drop (q + 1)) | none => none) := by
  have h1 : (xs.map (·.data.toList))[q]? = some x.data.toList := by rw [List.getElem?_map, hx]; rfl
  obtain ⟨hlt, he⟩ := List.getElem?_eq_some_iff.1 h1
  rw [List.drop_eq_getElem_cons hlt, he]
  rfl
end Go.Moor
namespace Go.Moor
open Go

/-- Numbers with dots, one behind another. -/
def dotAcc : Int → List (List UInt8) → Option Int
  | a, [] => some a
  | a, x :: l => match plainDec x with | some n => dotAcc (a * 256 + n) l | none => none
def sixDotted (l : List UInt8) : Option Int := if (splitOn 46 l).length = 4 then dotAcc 0 (splitOn 46 l) else none

theorem dotAcc_step (xs : List ByteArray) (q : Nat) (x : ByteArray) (a : Int) (hx : xs[q]? = some x) :
    dotAcc a ((xs.map (·.data.toList)).drop q) = (match plainDec x.data.toList with | some n => dotAcc (a * 256 + n) ((xs.map (·.data.toList)).drop (q + 1)) | none => none) := by
  have h1 : (xs.map (·.data.toList))[q]? = some x.data.toList := by rw [List.getElem?_map, hx]; rfl
  obtain ⟨hlt, he⟩ := List.getElem?_eq_some_iff.1 h1
  rw [List.drop_eq_getElem_cons hlt, he]
  rfl

theorem dotAcc_range : ∀ (l : List (List UInt8)) (a m : Int), 0 ≤ a → dotAcc a l = some m → 0 ≤ m ∧ m < (a + 1) * 256 ^ l.length
  | [], a, m, h0, h => by simp only [dotAcc, Option.some.injEq] at h; simp; omega
  | x :: l, a, m, h0, h => by
    simp only [dotAcc] at h
    split at h
    · rename_i n hn
      have hr := plainDec_range x n hn
      have := dotAcc_range l _ m (by omega) h
      refine ⟨this.1, Int.lt_of_lt_of_le this.2 ?_⟩
      rw [List.length_cons, Int.pow_succ, ← Int.mul_assoc, Int.mul_right_comm]
      exact Int.mul_le_mul_of_nonneg_right (by omega) (Int.pow_nonneg (by omega))
    · simp at h
theorem sixDotted_range (l : List UInt8) (m : Int) (h : sixDotted l = some m) : 0 ≤ m ∧ m < 4294967296 := by
  unfold sixDotted at h
  split at h
  · rename_i h4
    have := dotAcc_range _ 0 m (by omega) h
    rw [h4] at this
    exact ⟨this.1, by simpa using this.2⟩
  · simp at h

/-- The pieces that end an IP6: the last may be numbers with dots, two pieces. -/
def sixJoin : Option (List Int) → Option Int → Option (List Int)
  | some ps, some n => some (ps ++ [n / 65536, n % 65536])
  | _, _ => none
def sixLast (l : List (List UInt8)) : Option (List Int) :=
  match l.getLast? with
  | none => some []
  | some x => if 0 ≤ Lib.indexByte x 46 then sixJoin (sixPieces l.dropLast) (sixDotted x) else sixPieces l

theorem and_low16 (n : Int) (h0 : 0 ≤ n) (h1 : n < 4294967296) : bits .and .u64 n 65535 = n % 65536 := by
  obtain ⟨a, rfl⟩ := Int.eq_ofNat_of_zero_le h0
  rw [show (65535 : Int) = ((65535 : Nat) : Int) from rfl, u64_and_nat a 65535 (by omega) (by omega), show (65535 : Nat) = 2 ^ 16 - 1 from rfl, Nat.and_two_pow_sub_one_eq_mod]
  simp
end Go.Moor
namespace Go.Moor
open Go
theorem sixAcc_len : ∀ (l : List (List UInt8)) (ps qs : List Int), sixAcc ps l = some qs → qs.length = ps.length + l.length
  | [], ps, qs, h => by simp only [sixAcc, Option.some.injEq] at h; rw [h]; rfl
  | x :: l, ps, qs, h => by
    simp only [sixAcc] at h
    split at h
    · have := sixAcc_len l _ qs h
      simp at this ⊢
      omega
    · simp at h
end Go.Moor
namespace Go.Moor
open Go

/-- The eight pieces of what was read ahead and behind. -/
def sixFill (short : Bool) : Option (List Int) → Option (List Int) → Option (List Int)
  | some f, some g => if (if short then decide ((f.length : Int) + (g.length : Int) < 8) else (f.length : Int) + (g.length : Int) == 8) = true then some (f ++ (List.replicate (8 - f.length - g.length) 0 ++ g)) else none
  | _, _ => none
def sixOf (l : List UInt8) : Option (List Int) :=
  match Lib.cut l [58, 58] with
  | (a, b, true) => sixFill true (sixPieces (sixSplit a)) (sixLast (sixSplit b))
  | (_, _, false) => sixFill false (sixPieces (sixSplit [])) (sixLast (sixSplit l))
theorem sixSplit_len (l : List UInt8) : (sixSplit l).length ≤ l.length + 1 := by
  unfold sixSplit
  split
  · simp
  · exact splitOn_len 58 l
theorem sixLast_len (l : List (List UInt8)) (ps : List Int) (h : sixLast l = some ps) : ps.length ≤ l.length + 2 := by
  unfold sixLast at h
  split at h
  · simp at h; rw [h]; simp
  · split at h
    · cases hp : sixPieces l.dropLast with
      | none => rw [hp] at h; simp [sixJoin] at h
      | some qs =>
        have := sixAcc_len _ _ _ hp
        rw [hp] at h
        revert h
        cases sixDotted _ with
        | none => intro h; simp [sixJoin] at h
        | some n =>
          intro h
          simp only [sixJoin, Option.some.injEq] at h
          rw [← h]
          simp at this ⊢
          omega
    · have := sixAcc_len _ _ _ h
      simp at this
      omega
def zero8 : List Int := [0, 0, 0, 0, 0, 0, 0, 0]
def cells8 (l : List Int) : Array Value := (l.map (Value.int .u64)).toArray
theorem splice_fill (f g : List Int) (d : Nat) (hd : d + g.length = 8) (hl : f.length + g.length ≤ 8) :
    (splice (splice (zero8.map (Value.int .u64)) 0 (f.map (Value.int .u64))) d (g.map (Value.int .u64))).toArray = cells8 (f ++ (List.replicate (8 - f.length - g.length) 0 ++ g)) := by
  unfold cells8
  congr 1
  have hz : zero8.map (Value.int .u64) = List.replicate 8 (Value.int .u64 0) := rfl
  rw [hz]
  unfold splice
  simp only [List.take_zero, List.nil_append, List.length_map, Nat.zero_add, List.drop_replicate, List.map_append, List.map_replicate]
  rw [List.take_append, List.take_of_length_le (by simp; omega), List.drop_of_length_le (by simp; omega), List.append_nil, List.append_assoc, List.take_replicate, List.length_map]
  congr 3
  omega
end Go.Moor
namespace Go.Moor
open Go
/-- A piece as it is told. -/
def pieceTxt (p : Nat) : List UInt8 := digsF 16 3 p
def pieceStr (p : Nat) : ByteArray := ⟨(pieceTxt p).toArray⟩
def tellRow (ps : List Nat) : List UInt8 := Lib.join (ps.map pieceTxt) [58]

theorem join_len (c : UInt8) (m : Nat) : ∀ xs : List (List UInt8), (∀ x ∈ xs, x.length ≤ m) → (Lib.join xs [c]).length ≤ (m + 1) * xs.length
  | [], _ => by simp [Lib.join]
  | [x], h => by
    have := h x (by simp)
    simp [Lib.join]
    omega
  | x :: y :: l, h => by
    have h1 := h x (by simp)
    have h2 := join_len c m (y :: l) (fun z hz => h z (by simp [hz]))
    simp [Lib.join] at h2 ⊢
    rw [Nat.mul_add, Nat.mul_add] at *
    omega
theorem tellRow_len (ps : List Nat) : (tellRow ps).length ≤ 5 * ps.length := by
  have := join_len 58 4 (ps.map pieceTxt) (by
    intro x hx
    obtain ⟨p, _, rfl⟩ := List.mem_map.1 hx
    exact digs_len 16 3 p)
  simpa [tellRow] using this
end Go.Moor
namespace Go.Moor
open Go
/-- The longest row of noughts, the first of these: where it begins, how long it is. -/
def noughts : List Nat → Nat → Nat → Nat → Nat → Nat × Nat
  | [], _, _, s, l => (s, l)
  | p :: ps, i, row, s, l => if p ≠ 0 then noughts ps (i + 1) 0 s l else if l < row + 1 then noughts ps (i + 1) (row + 1) (i - row) (row + 1) else noughts ps (i + 1) (row + 1) s l

theorem noughts_bound (n : Nat) : ∀ (ps : List Nat) (i row s l : Nat), i + ps.length = n → row ≤ i → s + l ≤ n → (noughts ps i row s l).1 + (noughts ps i row s l).2 ≤ n
  | [], i, row, s, l, _, _, h => h
  | p :: ps, i, row, s, l, hi, hr, h => by
    have hi2 : i + 1 + ps.length = n := by simp at hi; omega
    unfold noughts
    split
    · exact noughts_bound n ps _ _ _ _ hi2 (by omega) h
    · split
      · exact noughts_bound n ps _ _ _ _ hi2 (by omega) (by omega)
      · exact noughts_bound n ps _ _ _ _ hi2 (by omega) h
def nats8 (ps : List Nat) : Array Value := cells8 (ps.map fun p => ((p : Nat) : Int))
theorem nats8_at (ps : List Nat) (i p : Nat) (h : ps[i]? = some p) : (nats8 ps)[i]? = some (.int .u64 (p : Nat)) := by
  unfold nats8 cells8
  simp [h]
theorem nats8_size (ps : List Nat) : (nats8 ps).size = ps.length := by simp [nats8, cells8]
end Go.Moor
namespace Go.Moor
open Go
/-- An IP6 as it is told, without its brackets. -/
def sixTell (ps : List Nat) : List UInt8 :=
  if (noughts ps 0 0 0 0).2 < 2 then tellRow ps else tellRow (ps.take (noughts ps 0 0 0 0).1) ++ ([58, 58] ++ tellRow (ps.drop ((noughts ps 0 0 0 0).1 + (noughts ps 0 0 0 0).2)))
end Go.Moor
namespace Go.Moor
open Go

def okPiece (p : Int) : Prop := 0 ≤ p ∧ p < 65536
theorem sixAcc_ok : ∀ (l : List (List UInt8)) (ps qs : List Int), (∀ p ∈ ps, okPiece p) → sixAcc ps l = some qs → ∀ p ∈ qs, okPiece p
  | [], ps, qs, h, e => by simp only [sixAcc, Option.some.injEq] at e; rw [← e]; exact h
  | x :: l, ps, qs, h, e => by
    simp only [sixAcc] at e
    split at e
    · rename_i n hn
      have hr := sixPiece_range x n hn
      refine sixAcc_ok l _ qs (fun p hp => ?_) e
      rcases List.mem_append.1 hp with hp | hp
      · exact h p hp
      · simp at hp; subst hp; exact ⟨hr.1, by omega⟩
    · simp at e
theorem sixPieces_ok (l : List (List UInt8)) (qs : List Int) (e : sixPieces l = some qs) : ∀ p ∈ qs, okPiece p := sixAcc_ok l [] qs (by simp) e
theorem sixLast_ok (l : List (List UInt8)) (qs : List Int) (e : sixLast l = some qs) : ∀ p ∈ qs, okPiece p := by
  unfold sixLast at e
  split at e
  · simp at e; rw [e]; simp
  · split at e
    · rename_i x _ _
      cases hp : sixPieces l.dropLast with
      | none => rw [hp] at e; simp [sixJoin] at e
      | some ps =>
        cases hd : sixDotted x with
        | none => rw [hp, hd] at e; simp [sixJoin] at e
        | some n =>
          rw [hp, hd] at e
          simp only [sixJoin, Option.some.injEq] at e
          rw [← e]
          have hr := sixDotted_range x n hd
          intro p hm
          rcases List.mem_append.1 hm with hm | hm
          · exact sixPieces_ok _ ps hp p hm
          · simp at hm
            rcases hm with rfl | rfl
            · exact ⟨by omega, by omega⟩
            · exact ⟨by omega, by omega⟩
    · exact sixPieces_ok l qs e
theorem sixFill_ok (b : Bool) (f g : Option (List Int)) (qs : List Int) (hf : ∀ ps, f = some ps → ∀ p ∈ ps, okPiece p) (hg : ∀ ps, g = some ps → ∀ p ∈ ps, okPiece p) (e : sixFill b f g = some qs) : qs.length = 8 ∧ ∀ p ∈ qs, okPiece p := by
  cases f with
  | none => simp [sixFill] at e
  | some f =>
    cases g with
    | none => simp [sixFill] at e
    | some g =>
      have key : f.length + g.length ≤ 8 ∧ f ++ (List.replicate (8 - f.length - g.length) 0 ++ g) = qs := by
        cases b
        · simp [sixFill] at e
          exact ⟨by omega, e.2⟩
        · simp [sixFill] at e
          exact ⟨by omega, e.2⟩
      obtain ⟨hl, e⟩ := key
      rw [← e]
      refine ⟨by simp; omega, fun p hp => ?_⟩
      rcases List.mem_append.1 hp with hp | hp
      · exact hf f rfl p hp
      · rcases List.mem_append.1 hp with hp | hp
        · rw [List.eq_of_mem_replicate hp]; exact ⟨by omega, by omega⟩
        · exact hg g rfl p hp
theorem sixOf_ok (l : List UInt8) (qs : List Int) (e : sixOf l = some qs) : qs.length = 8 ∧ ∀ p ∈ qs, okPiece p := by
  unfold sixOf at e
  split at e
  · exact sixFill_ok _ _ _ qs (fun ps h => sixPieces_ok _ ps h) (fun ps h => sixLast_ok _ ps h) e
  · exact sixFill_ok _ _ _ qs (fun ps h => sixPieces_ok _ ps h) (fun ps h => sixLast_ok _ ps h) e

theorem cells8_nats (ps : List Int) (h : ∀ p ∈ ps, okPiece p) : cells8 ps = nats8 (ps.map Int.toNat) := by
  unfold nats8
  congr 1
  rw [List.map_map]
  refine (List.map_id ps).symm.trans (List.map_congr_left fun p hp => ?_)
  have := (h p hp).1
  simp
  omega

/-- What is told of a text behind a bracket. -/
def bracketed (l : List UInt8) : Option (List UInt8) :=
  if Lib.hasSuffix l [93] = true then (match sixOf (Lib.trimSuffix l [93]) with | some ps => some ([91] ++ (sixTell (ps.map Int.toNat) ++ [93])) | none => none) else none
end Go.Moor
namespace Go.Moor
open Go

/-- Bytes that a host of a scheme that is not special can't have. -/
def forbP : List UInt8 := [0, 9, 10, 13, 32, 35, 47, 58, 60, 62, 63, 64, 91, 92, 93, 94, 124]
def badP (c : UInt8) : Bool := decide (0 ≤ Lib.indexByte forbP c)
def hostPlain (l : List UInt8) : Option (List UInt8) := if l.any badP then none else some (esc 0 l)
/-- The host, told, or none. -/
def hostTell (l : List UInt8) (sp : Bool) : Option (List UInt8) :=
  if Lib.hasPrefix l [91] = true then bracketed (l.drop 1) else if sp then hostSpecial (unesc l) else hostPlain l
end Go.Moor
/-
  What host.readPiece, host.readPlainDecimal, host.readDecimal, host.rightCount and host.splitPieces answer.
-/
namespace Go.Proofs
open Go.RowKit Go.Moor

set_option maxHeartbeats 1000000 in
theorem Tryz.readPiece_any (s : ByteArray) (w : World) (hs : s.size ≤ maxLen) (he : Tryz.Err 21 w) (he2 : Tryz.Err 19 w) :
    Calls Tryz.prog 166 #[.string s] w fun e w' => NumRes (sixPiece s.data.toList) e ∧ ∃ n, w' = w.drewN n := by
  have hlen : s.data.toList.length = s.size := by simp
  unfold sixPiece
  rw [hlen]
  have HE : Hid (Tryz.Err 21 w) := he
  obtain ⟨te, ve, hce⟩ := he2
  have hxs := hs
  unfold maxLen at hs
  clear he hlen
  by_cases h0 : s.size < 1
  · rw [if_pos (Or.inl h0)]
    go_enter Tryz.func166, Tryz.ntmps166
    go_wp2
    go_quiet (fail)
    go_wp2
    go_ret2
    exact ⟨⟨_, _, rfl⟩, _, rfl⟩
  · by_cases h4 : 4 < s.size
    · rw [if_pos (Or.inr h4)]
      go_enter Tryz.func166, Tryz.ntmps166
      go_wp2
      go_quiet (fail)
      go_wp2
      go_ret2
      exact ⟨⟨_, _, rfl⟩, _, rfl⟩
    · rw [if_neg (by omega)]
      go_enter Tryz.func166, Tryz.ntmps166
      go_wp2_with fail
      refine (Tryz.readDigits_any s 16 65535 _ hxs (by omega) (by omega) (by omega) (by omega) HE.out).mono ?_
      rintro e w1 ⟨hr, nd, rfl⟩
      obtain ⟨ra, rb, rfl, hr⟩ := numRes_ret hr
      have HR : Hid (NumRes (digAcc 16 65535 0 s.data.toList) (.returned (.tuple #[.int .u64 ra, rb]))) := hr
      clear hr
      go_wp2
      go_ret2
      exact ⟨HR.out, nd, rfl⟩

set_option maxHeartbeats 1000000 in
theorem Tryz.plainDec_empty (s : ByteArray) (w : World) (hem : s.toList.isEmpty = true) (he2 : Tryz.Err 10 w) :
    Calls Tryz.prog 225 #[.string s] w fun e w' => NumRes none e ∧ ∃ n, w' = w.drewN n := by
  obtain ⟨te, ve, hce⟩ := he2
  go_enter Tryz.func225, Tryz.ntmps225
  go_wp2
  go_quiet (fail)
  go_wp2
  go_ret2
  exact ⟨⟨_, _, rfl⟩, _, rfl⟩

set_option maxHeartbeats 1000000 in
theorem Tryz.plainDec_nought (s : ByteArray) (w : World) (hs : s.size ≤ maxLen) (hem : s.toList.isEmpty = false) (h2 : 1 < s.size) (h48 : ((s[0].toNat : Int) == 48) = true) (he2 : Tryz.Err 26 w) :
    Calls Tryz.prog 225 #[.string s] w fun e w' => NumRes none e ∧ ∃ n, w' = w.drewN n := by
  unfold maxLen at hs
  obtain ⟨te, ve, hce⟩ := he2
  go_enter Tryz.func225, Tryz.ntmps225
  go_wp2
  go_quiet (fail)
  go_wp2
  go_ret2
  exact ⟨⟨_, _, rfl⟩, _, rfl⟩

set_option maxHeartbeats 1000000 in
theorem Tryz.plainDec_dec (s : ByteArray) (w : World) (hs : s.size ≤ maxLen) (hem : s.toList.isEmpty = false) (h1 : 0 < s.size) (h48 : ((s[0].toNat : Int) == 48) = false ∨ (((s[0].toNat : Int) == 48) = true ∧ s.size < 2)) (he : Tryz.Err 21 w) :
    Calls Tryz.prog 225 #[.string s] w fun e w' => NumRes (digAcc 10 255 0 s.data.toList) e ∧ ∃ n, w' = w.drewN n := by
  have HE : Hid (Tryz.Err 21 w) := he
  have hxs := hs
  unfold maxLen at hs
  clear he
  rcases h48 with h48 | ⟨h48, hlt⟩
  all_goals
    go_enter Tryz.func225, Tryz.ntmps225
    go_wp2_with fail
    refine (Tryz.readDigits_any s 10 255 _ hxs (by omega) (by omega) (by omega) (by omega) HE.out).mono ?_
    rintro e w1 ⟨hr, nd, rfl⟩
    obtain ⟨ra, rb, rfl, hr⟩ := numRes_ret hr
    have HR : Hid (NumRes (digAcc 10 255 0 s.data.toList) (.returned (.tuple #[.int .u64 ra, rb]))) := hr
    clear hr
    go_wp2
    go_ret2
    exact ⟨HR.out, nd, rfl⟩

theorem Tryz.readPlainDecimal_any (s : ByteArray) (w : World) (hs : s.size ≤ maxLen) (he : Tryz.Err 21 w) (he2 : Tryz.Err 10 w) (he3 : Tryz.Err 26 w) :
    Calls Tryz.prog 225 #[.string s] w fun e w' => NumRes (plainDec s.data.toList) e ∧ ∃ n, w' = w.drewN n := by
  have hlen : s.data.toList.length = s.size := by simp
  match hl : s.data.toList with
  | [] => exact Tryz.plainDec_empty s w (by rw [Lib.toList_data, hl]; rfl) he2
  | a :: l =>
    have hem : s.toList.isEmpty = false := by rw [Lib.toList_data, hl]; rfl
    have h1 : 0 < s.size := by rw [← hlen, hl]; simp
    have ha := first_at s a l hl h1
    unfold plainDec
    rw [if_neg (by simp)]
    by_cases h48 : a = 48
    · have hb : ((s[0].toNat : Int) == 48) = true := by rw [ha, h48]; decide
      by_cases h2 : 1 < s.size
      · rw [if_pos ⟨by simp [h48], by rw [← hl, hlen]; exact h2⟩]
        exact Tryz.plainDec_nought s w hs hem h2 hb he3
      · rw [if_neg (by rw [← hl, hlen]; exact fun h => h2 h.2), ← hl]
        exact Tryz.plainDec_dec s w hs hem h1 (Or.inr ⟨hb, by omega⟩) he
    · rw [if_neg (by simp [h48]), ← hl]
      refine Tryz.plainDec_dec s w hs hem h1 (Or.inl ?_) he
      rw [ha]
      have : (a.toNat : Int) ≠ 48 := fun e => h48 (by
        apply UInt8.toNat_inj.1
        show a.toNat = 48
        omega)
      simpa using this

set_option maxHeartbeats 1000000 in
theorem Tryz.readDecimal_any (s : ByteArray) (w : World) (hs : s.size ≤ maxLen) (he : Tryz.Err 21 w) (he2 : Tryz.Err 10 w) (he3 : Tryz.Err 26 w) :
    Calls Tryz.prog 204 #[.string s] w fun e w' => NumRes (plainDec s.data.toList) e ∧ ∃ n, w' = w.drewN n := by
  have HE : Hid (Tryz.Err 21 w) := he
  have HE2 : Hid (Tryz.Err 10 w) := he2
  have HE3 : Hid (Tryz.Err 26 w) := he3
  clear he he2 he3
  cases ho : plainDec s.data.toList with
  | none =>
    have HO : Hid (plainDec s.data.toList = none) := ho
    clear ho
    go_enter Tryz.func204, Tryz.ntmps204
    go_wp2_with fail
    refine (Tryz.readPlainDecimal_any s _ hs HE.out HE2.out HE3.out).mono ?_
    rw [HO.out]
    rintro e w1 ⟨⟨t, v, rfl⟩, nd, rfl⟩
    go_wp2
    go_ret2
    exact ⟨⟨_, _, rfl⟩, nd, rfl⟩
  | some n =>
    have HO : Hid (plainDec s.data.toList = some n) := ho
    clear ho
    go_enter Tryz.func204, Tryz.ntmps204
    go_wp2_with fail
    refine (Tryz.readPlainDecimal_any s _ hs HE.out HE2.out HE3.out).mono ?_
    rw [HO.out]
    rintro e w1 ⟨rfl, nd, rfl⟩
    go_wp2
    go_ret2
    exact ⟨rfl, nd, rfl⟩

set_option maxHeartbeats 1000000 in
theorem Tryz.rightCount_any (k : Int) (b : Bool) (w : World) :
    Calls Tryz.prog 131 #[.int .i64 k, .bool b] w fun e w' => e = .returned (.bool (if b then decide (k < 8) else k == 8)) ∧ w' = w := by
  cases b
  all_goals
    go_enter Tryz.func131, Tryz.ntmps131
    go_wp2
    go_ret
    exact ⟨rfl, rfl⟩

set_option maxHeartbeats 1000000 in
theorem Tryz.splitPieces_empty (s : ByteArray) (w : World) (hem : s.toList.isEmpty = true) :
    Calls Tryz.prog 129 #[.string s] w fun e w' => e = .returned (.slice none 0 0) ∧ w' = w := by
  go_enter Tryz.func129, Tryz.ntmps129
  go_wp2
  go_ret
  exact ⟨rfl, rfl⟩
end Go.Proofs
/-
  What host.readPieces answers: the pieces, in a row of its own, or nil and an error.
-/
namespace Go.Proofs
open Go.RowKit Go.Moor

theorem Tryz.infoU64 : (Tryz.prog.info? 136).map (fun i => (i.zero, i.size, i.bytes)) = some (some (.int .u64 0), 1, 8) := by kernel_rfl

/-- A row of pieces of the call's own and no error, or nil and an error. -/
def Tryz.RowRes (B : Nat) (o : Option (List Int)) (e : Ending) (w' : World) : Prop :=
  match o with
  | some ps => ∃ v, e = .returned (.tuple #[v, .nilIface]) ∧ w'.ownsRow B 136 1 v ps.length (ps.map (Value.int .u64))
  | none => ∃ t v, e = .returned (.tuple #[.slice none 0 0, .iface t v])

set_option maxHeartbeats 1000000 in
theorem Tryz.readPieces_nil (w : World) :
    Calls Tryz.prog 128 #[.slice none 0 0] w fun e w' => e = .returned (.tuple #[.slice none 0 0, .nilIface]) ∧ w' = w := by
  go_enter Tryz.func128, Tryz.ntmps128
  go_wp2
  go_loop [4, 11] (fun v i => v = .slice none 0 0 ∧ i = .int .i64 0) (fun _ _ => 0)
  case atStart => exact ⟨rfl, rfl⟩
  case round =>
    obtain ⟨rfl, rfl⟩ := hrel
    go_wp2
    go_ret2
    exact ⟨rfl, rfl⟩

set_option maxHeartbeats 4000000 in
theorem Tryz.readPieces_row (b cap : Nat) (xs : List ByteArray) (w : World) (hb : b < w.heap.size) (hcap : xs.length ≤ cap) (hcap2 : cap ≤ 4294967282) (hs : ∀ x ∈ xs, x.size ≤ maxLen)
    (hcl : ∀ (j : Nat) x, xs[j]? = some x → w.cell? ⟨b, j, none⟩ = some (.string x)) (henv : Tryz.Env w) :
    Calls Tryz.prog 128 #[.slice (some ⟨b, 0, none⟩) xs.length cap] w fun e w' => Tryz.RowRes w.heap.size (sixPieces (xs.map (·.data.toList))) e w' ∧ Below w.heap.size w w' := by
  have HC : Hid (∀ (j : Nat) x, xs[j]? = some x → w.cell? ⟨b, j, none⟩ = some (.string x)) := hcl
  have HS : Hid (∀ x ∈ xs, x.size ≤ maxLen) := hs
  have HV : Hid (Tryz.Env w) := henv
  obtain ⟨i0, hi, hz0, hz1, hz2⟩ := info_parts Tryz.infoU64
  generalize hgo : sixPieces (xs.map (·.data.toList)) = goal
  have HG : Hid (sixAcc [] (xs.map (·.data.toList)) = goal) := hgo
  clear hcl hs henv hgo
  go_enter Tryz.func128, Tryz.ntmps128
  go_wp2
  go_loopw [4, 11] (fun v i wr => ∃ (q : Nat) (ps : List Int), q ≤ xs.length ∧ i = .int .i64 q ∧ ps.length = q ∧ wr.ownsRow w.heap.size 136 1 v ps.length (ps.map (Value.int .u64)) ∧ sixAcc ps ((xs.map (·.data.toList)).drop q) = goal ∧ Below w.heap.size w wr) (fun _ i _ => xs.length - (intOf i).toNat)
  case atStart => exact ⟨0, [], Nat.zero_le _, rfl, rfl, World.ownsRow_nil _ _ _ _, HG.out, Below.refl _ _⟩
  case round =>
    obtain ⟨q, ps, hq, rfl, hpl, hown, hrest, hbw⟩ := hrel
    have HR : Hid (sixAcc ps ((xs.map (·.data.toList)).drop q) = goal) := hrest
    have HB : Hid (Below w.heap.size w wr) := hbw
    have HO : Hid (wr.ownsRow w.heap.size 136 1 _ ps.length (ps.map (Value.int .u64))) := hown
    have hwz := hbw.size
    clear hrest hbw hown
    by_cases hlt : q < xs.length
    · obtain ⟨x, hx⟩ : ∃ x, xs[q]? = some x := ⟨xs[q]'hlt, by simp⟩
      have hc : wr.cell? ⟨b, q, none⟩ = some (.string x) := (HB.out.cell (by exact hb)).trans (HC.out q x hx)
      have hxm := HS.out x (List.mem_of_getElem? hx)
      have HST : Hid (sixAcc ps ((xs.map (·.data.toList)).drop q) = (match sixPiece x.data.toList with | some n => sixAcc (ps ++ [n]) ((xs.map (·.data.toList)).drop (q + 1)) | none => none)) := sixAcc_step xs q x ps hx
      have HVr : Hid (Tryz.Env wr) := HV.out.below HB.out
      clear hx
      cases ho : sixPiece x.data.toList with
      | none =>
        have HN : Hid (sixPiece x.data.toList = none) := ho
        clear ho
        go_wp2_with fail
        refine (Tryz.readPiece_any x _ hxm HVr.out.eGreat HVr.out.eLength).mono ?_
        rw [HN.out]
        rintro e w2 ⟨⟨te, ve, rfl⟩, nd2, rfl⟩
        go_wp2
        go_ret2
        refine ⟨?_, Go.below_drewN HB.out _⟩
        have h1 := HR.out
        rw [HST.out, HN.out] at h1
        rw [← h1]
        exact ⟨_, _, rfl⟩
      | some n =>
        have HN : Hid (sixPiece x.data.toList = some n) := ho
        clear ho
        go_wp2_with fail
        refine (Tryz.readPiece_any x _ hxm HVr.out.eGreat HVr.out.eLength).mono ?_
        rw [HN.out]
        rintro e w2 ⟨rfl, nd2, rfl⟩
        have hown2 := (show (wr.drewN nd2).ownsRow w.heap.size 136 1 _ ps.length (ps.map (Value.int .u64)) from HO.out)
        have HO2 := hown2.alloc (.cells #[.int .u64 n] 136)
        go_wp2_with (at_builtin; refine wpList_append_own _ rfl _ _ 181 rfl w.heap.size 136 i0 (.int .u64 0) 1 8 Tryz.underlying181 hi hz0 hz1 hz2 rfl (by decide) _ _ _ rfl HO2 ⟨wr.heap.size, 0, none⟩ 1 1 [.int .u64 n] rfl rfl ?c1 ?c2 ?c3 ?c4 ?c5 ?_)
        case c1 =>
          intro j u hj
          match j, hj with
          | 0, hj => simp at hj; subst hj; exact World.cell?_alloc_new (wr.drewN nd2) #[.int .u64 n] 136 0
        case c2 => intro u hu; simp at hu; subst hu; rfl
        case c3 => unfold maxLen; omega
        case c4 => omega
        case c5 => simp; omega
        intro v' w1 hown' hgrow _
        have HOW : Hid (w1.ownsRow w.heap.size 136 1 v' (q + 1) (ps.map (Value.int .u64) ++ [.int .u64 n])) := hown'
        have HBB : Hid (Below w.heap.size w w1) := ((Go.below_drewN HB.out nd2).alloc (by simpa using hwz) _).grown hgrow (by simp; omega) (fun k hk => (HO2.lt k hk).1)
        clear hown' hgrow hown2 HO2
        go_wp2
        go_roundw
        case rel =>
          refine ⟨q + 1, ps ++ [n], by omega, by go_num, by simp [hpl], ?_, ?_, HBB.out⟩
          · have := HOW.out
            rw [List.length_append, List.map_append, hpl]
            exact this
          · have h1 := HR.out
            rw [HST.out, HN.out] at h1
            exact h1
        case measure => simp [intOf]; omega
    · go_wp2
      go_ret2
      refine ⟨?_, HB.out⟩
      have h1 := HR.out
      rw [List.drop_eq_nil_of_le (by simp; omega)] at h1
      rw [← h1]
      exact ⟨_, rfl, HO.out⟩
end Go.Proofs
