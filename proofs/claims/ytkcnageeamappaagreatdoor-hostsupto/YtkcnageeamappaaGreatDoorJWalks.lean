/-
  Plain functions on lists of bytes: what a set of bytes has, what it is to escape and to unescape a text, and the laws on them that the walks use; no program is named here.
-/
import Derived.Lib.IndexMore
import Derived.Lib.IndexBytes
import Derived.Lib.UnsafeStr
import Derived.Laws.Entries
import Derived.KernelRfl
import Derived.Test.YtkcnageeamappaaGreatDoorJShelf
import Derived.WalkKit
import Derived.WalkSpells
import Derived.WalkLawsBesides
import Derived.BigCall
import Derived.BigQuiet
import Derived.Deep.QuietTactic
import Derived.Deep.RegionWith
import Derived.Laws.CopyOwn
import Derived.Laws.Rows
namespace Go.Moor
open Go

/-- The table of the seven sets, four words each, as the program's text lays it. -/
def tab : List Int := [4294967295, 9223372036854775808, 18446744073709551615, 18446744073709551615, 5764607548804038655, 9223372041149743104, 18446744073709551615, 18446744073709551615, 5764607583163777023, 9223372036854775808, 18446744073709551615, 18446744073709551615, 5764608132919590911, 9223372036854775808, 18446744073709551615, 18446744073709551615, 14987979620018552831, 12105675803740602368, 18446744073709551615, 18446744073709551615, 18158654495175737343, 13258597309286973441, 18446744073709551615, 18446744073709551615, 18158681364491141119, 13258597309286973441, 18446744073709551615, 18446744073709551615]
def tabAt (k : Nat) : Int := tab.getD k 0

/-- Has set s the byte b? -/
def holdsB (s b : Int) : Bool := (decide (0 ≤ s) && decide (s < 7)) && (bits .and .u64 (tabAt (s.toNat * 4 + (b / 64).toNat) / 2 ^ (b % 64).toNat) 1 == 1)

def hexCap (n : Nat) : UInt8 := if n < 10 then (48 + n).toUInt8 else (55 + n).toUInt8

def escB (s : Int) (c : UInt8) : List UInt8 := if holdsB s c.toNat then [37, hexCap (c.toNat / 16), hexCap (c.toNat % 16)] else [c]

def esc (s : Int) (l : List UInt8) : List UInt8 := l.flatMap (escB s)

/-- What a byte counts for as a HEX, or 16. -/
def hexVal (b : Int) : Int := if 48 ≤ b ∧ b ≤ 57 then b - 48 else if 65 ≤ b ∧ b ≤ 70 then b - 55 else if 97 ≤ b ∧ b ≤ 102 then b - 87 else 16

def twoHex : List UInt8 → Bool
  | a :: b :: _ => decide (hexVal a.toNat < 16) && decide (hexVal b.toNat < 16)
  | _ => false

def pairB (a b : UInt8) : UInt8 := (16 * (hexVal a.toNat).toNat + (hexVal b.toNat).toNat).toUInt8

def unesc : List UInt8 → List UInt8
  | [] => []
  | c :: [] => [c]
  | c :: a :: [] => [c, a]
  | c :: a :: b :: r => if c = 37 then (if twoHex (a :: b :: r) then pairB a b :: unesc r else 37 :: unesc (a :: b :: r)) else c :: unesc (a :: b :: r)

theorem unesc_ne (c : UInt8) (l : List UInt8) (h : c ≠ 37) : unesc (c :: l) = c :: unesc l := by
  match l with
  | [] => simp [unesc]
  | [a] => simp [unesc]
  | a :: b :: r => rw [unesc, if_neg h]

theorem unesc_hex (a b : UInt8) (r : List UInt8) (h : twoHex (a :: b :: r) = true) : unesc (37 :: a :: b :: r) = pairB a b :: unesc r := by
  rw [unesc, if_pos rfl, if_pos h]

theorem unesc_not (l : List UInt8) (h : twoHex l = false) : unesc (37 :: l) = 37 :: unesc l := by
  match l with
  | [] => simp [unesc]
  | [a] => simp [unesc]
  | a :: b :: r => rw [unesc, if_pos rfl, if_neg (by simp [h])]

theorem unesc_app (p l : List UInt8) (h : ∀ c ∈ p, c ≠ 37) : unesc (p ++ l) = p ++ unesc l := by
  induction p with
  | nil => rfl
  | cons c p ih =>
    rw [List.cons_append, unesc_ne c _ (h c (by simp)), ih (fun x hx => h x (by simp [hx]))]
    rfl

theorem unesc_plain (p : List UInt8) (h : ∀ c ∈ p, c ≠ 37) : unesc p = p := by
  have := unesc_app p [] h
  simpa [unesc] using this

/-- What strings.Cut at a percent sign hands back: nothing found, or the two sides. -/
theorem indexByte_split (c : UInt8) : ∀ l : List UInt8, (Lib.indexByte l c = -1 ∧ ∀ x ∈ l, x ≠ c) ∨ ∃ p r, l = p ++ c :: r ∧ (∀ x ∈ p, x ≠ c) ∧ Lib.indexByte l c = (p.length : Int)
  | [] => Or.inl ⟨rfl, by simp⟩
  | b :: l => by
    by_cases hb : b = c
    · subst hb
      exact Or.inr ⟨[], l, rfl, by simp, by simp [Lib.indexByte]⟩
    · rcases indexByte_split c l with ⟨h1, h2⟩ | ⟨p, r, rfl, h2, h3⟩
      · refine Or.inl ⟨?_, ?_⟩
        · simp [Lib.indexByte, hb, h1]
        · intro x hx
          rcases List.mem_cons.1 hx with rfl | hx
          · exact hb
          · exact h2 x hx
      · refine Or.inr ⟨b :: p, r, rfl, ?_, ?_⟩
        · intro x hx
          rcases List.mem_cons.1 hx with rfl | hx
          · exact hb
          · exact h2 x hx
        · have : ¬ ((p.length : Int) = -1) := by omega
          simp [Lib.indexByte, hb, h3, this]

theorem cut_split (c : UInt8) (l : List UInt8) : (Lib.cut l [c] = (l, [], false) ∧ ∀ x ∈ l, x ≠ c) ∨ ∃ p r, l = p ++ c :: r ∧ (∀ x ∈ p, x ≠ c) ∧ Lib.cut l [c] = (p, r, true) := by
  rcases indexByte_split c l with ⟨h1, h2⟩ | ⟨p, r, hl, h2, h3⟩
  · refine Or.inl ⟨?_, h2⟩
    unfold Lib.cut
    rw [Lib.index_one, h1]; simp
  · refine Or.inr ⟨p, r, hl, h2, ?_⟩
    unfold Lib.cut
    rw [Lib.index_one, h3]
    subst hl
    simp

theorem hexVal_range (b : Int) : 0 ≤ hexVal b ∧ hexVal b ≤ 16 := by unfold hexVal; split; omega; split; omega; split <;> omega

/-- Every byte of the component set comes back from its escape. -/
theorem pair_back : ∀ c : Fin 256, pairB (hexCap (c.val / 16)) (hexCap (c.val % 16)) = c.val.toUInt8 ∧ hexVal (hexCap (c.val / 16)).toNat < 16 ∧ hexVal (hexCap (c.val % 16)).toNat < 16 := by decide +kernel
theorem pair_back' (c : UInt8) : pairB (hexCap (c.toNat / 16)) (hexCap (c.toNat % 16)) = c ∧ hexVal (hexCap (c.toNat / 16)).toNat < 16 ∧ hexVal (hexCap (c.toNat % 16)).toNat < 16 := by
  have h := pair_back ⟨c.toNat, c.toNat_lt⟩
  simpa using h

theorem unesc_escB (s : Int) (c : UInt8) (l : List UInt8) (h : holdsB s 37 = true) : unesc (escB s c ++ l) = c :: unesc l := by
  unfold escB
  split
  · obtain ⟨h1, h2, h3⟩ := pair_back' c
    show unesc (37 :: hexCap (c.toNat / 16) :: hexCap (c.toNat % 16) :: l) = _
    rw [unesc_hex _ _ _ (by simp [twoHex, h2, h3]), h1]
  · rename_i hn
    exact unesc_ne c l (fun e => hn (by subst e; simpa using h))

/-- What is escaped by a set that has the percent sign comes back. -/
theorem unesc_esc (s : Int) (h : holdsB s 37 = true) : ∀ l : List UInt8, unesc (esc s l) = l
  | [] => rfl
  | c :: l => by
    show unesc (escB s c ++ esc s l) = _
    rw [unesc_escB s c _ h, unesc_esc s h l]

theorem esc_none (s : Int) (h : s < 0 ∨ 7 ≤ s) (l : List UInt8) : esc s l = l := by
  induction l with
  | nil => rfl
  | cons c l ih =>
    show escB s c ++ esc s l = _
    have hn : holdsB s c.toNat = false := by
      unfold holdsB
      rcases h with h | h
      · have : decide (0 ≤ s) = false := by simpa using h
        simp [this]
      · have : decide (s < 7) = false := by simpa using h
        simp [this]
    rw [ih]
    simp [escB, hn]

theorem escB_len (s : Int) (c : UInt8) : (escB s c).length = 1 + 2 * (holdsB s c.toNat).toNat := by
  unfold escB
  split <;> rename_i h
  · simp [h]
  · simp [Bool.eq_false_iff.2 h]

def cnt (s : Int) (l : List UInt8) : Nat := (l.map fun c => (holdsB s c.toNat).toNat).sum

theorem esc_len (s : Int) : ∀ l : List UInt8, (esc s l).length = l.length + 2 * cnt s l
  | [] => rfl
  | c :: l => by
    show (escB s c ++ esc s l).length = _
    rw [List.length_append, escB_len, esc_len s l]
    simp [cnt]
    omega

theorem cnt_le (s : Int) : ∀ l : List UInt8, cnt s l ≤ l.length
  | [] => by simp [cnt]
  | c :: l => by
    have := cnt_le s l
    have hb : (holdsB s c.toNat).toNat ≤ 1 := by cases holdsB s c.toNat <;> simp
    simp [cnt] at this ⊢
    omega

theorem cnt_mono (s t : Int) (h : ∀ c : Fin 256, holdsB s c.val = true → holdsB t c.val = true) : ∀ l : List UInt8, cnt s l ≤ cnt t l
  | [] => by simp [cnt]
  | c :: l => by
    have := cnt_mono s t h l
    have hb : (holdsB s c.toNat).toNat ≤ (holdsB t c.toNat).toNat := by
      have hc := h ⟨c.toNat, c.toNat_lt⟩
      cases hs : holdsB s c.toNat
      · simp
      · rw [hc hs]; simp
    simp [cnt] at this ⊢
    omega

theorem sub02 : ∀ c : Fin 256, holdsB 0 c.val = true → holdsB 2 c.val = true := by decide +kernel
theorem sub24 : ∀ c : Fin 256, holdsB 2 c.val = true → holdsB 4 c.val = true := by decide +kernel
theorem sub45 : ∀ c : Fin 256, holdsB 4 c.val = true → holdsB 5 c.val = true := by decide +kernel
theorem sub56 : ∀ c : Fin 256, holdsB 5 c.val = true → holdsB 6 c.val = true := by decide +kernel
theorem has37 : holdsB 6 37 = true := by decide +kernel
theorem comp_plain : ∀ c : Fin 256, holdsB 6 c.val = false → (33 ≤ c.val ∧ c.val ≤ 126) := by decide +kernel
theorem caps_plain : ∀ n : Fin 16, 33 ≤ (hexCap n.val).toNat ∧ (hexCap n.val).toNat ≤ 126 := by decide +kernel
theorem plain_text : esc 6 [97, 122, 32, 65, 90, 48, 57, 45, 46, 95, 126] = [97, 122, 37, 50, 48, 65, 90, 48, 57, 45, 46, 95, 126] := by decide +kernel

theorem esc6_bytes : ∀ (l : List UInt8) (x : UInt8), x ∈ esc 6 l → 33 ≤ x.toNat ∧ x.toNat ≤ 126
  | [], x, h => by simp [esc] at h
  | c :: l, x, h => by
    have h' : x ∈ escB 6 c ∨ x ∈ esc 6 l := by
      have : x ∈ escB 6 c ++ esc 6 l := h
      exact List.mem_append.1 this
    rcases h' with h' | h'
    · unfold escB at h'
      split at h'
      · have hlt := c.toNat_lt
        have e1 := caps_plain ⟨c.toNat / 16, by omega⟩
        have e2 := caps_plain ⟨c.toNat % 16, by omega⟩
        simp only [List.mem_cons, List.not_mem_nil, or_false] at h'
        rcases h' with rfl | rfl | rfl
        · decide
        · exact e1
        · exact e2
      · rename_i hn
        simp only [List.mem_cons, List.not_mem_nil, or_false] at h'
        subst h'
        exact comp_plain ⟨x.toNat, x.toNat_lt⟩ (Bool.eq_false_iff.2 hn)
    · exact esc6_bytes l x h'

theorem esc_snoc (s : Int) (l : List UInt8) (c : UInt8) : esc s (l ++ [c]) = esc s l ++ escB s c := by
  simp [esc, List.flatMap_append]

theorem take_snoc (s : ByteArray) (k : Nat) (h : k < s.size) : s.data.toList.take (k + 1) = s.data.toList.take k ++ [s[k]] := by
  rw [List.take_succ_eq_append_getElem (by simpa using h)]; rfl

theorem size_mk (l : List UInt8) : (⟨l.toArray⟩ : ByteArray).size = l.length := by simp [ByteArray.size]

theorem or_fin : ∀ x y : Fin 16, IntKind.u8.wrap (bits .or .u64 (IntKind.u64.wrap ((x.val : Int) * 16)) (y.val : Int)) = ((16 * x.val + y.val).toUInt8.toNat : Int) := by decide +kernel
theorem or_pair (a b : UInt8) (l : List UInt8) (h : twoHex (a :: b :: l) = true) : IntKind.u8.wrap (bits .or .u64 (IntKind.u64.wrap (hexVal a.toNat * 16)) (hexVal b.toNat)) = ((pairB a b).toNat : Int) := by
  have h' : hexVal a.toNat < 16 ∧ hexVal b.toNat < 16 := by simpa [twoHex] using h
  have ra := hexVal_range a.toNat
  have rb := hexVal_range b.toNat
  have := or_fin ⟨(hexVal a.toNat).toNat, by omega⟩ ⟨(hexVal b.toNat).toNat, by omega⟩
  unfold pairB
  rw [← this]
  simp only [Int.toNat_of_nonneg ra.1, Int.toNat_of_nonneg rb.1]

theorem unesc_len : ∀ (n : Nat) (l : List UInt8), l.length ≤ n → (unesc l).length ≤ l.length
  | 0, l, h => by
    have : l = [] := List.length_eq_zero_iff.1 (by omega)
    subst this; simp [unesc]
  | n + 1, [], _ => by simp [unesc]
  | n + 1, c :: l, h => by
    by_cases hc : c = 37
    · subst hc
      by_cases ht : twoHex l = true
      · match l, ht, h with
        | a :: b :: r, ht, h =>
          rw [unesc_hex a b r ht]
          have := unesc_len n r (by simp at h; omega)
          simp; omega
      · rw [unesc_not l (Bool.eq_false_iff.2 ht)]
        have := unesc_len n l (by simp at h; omega)
        simp; omega
    · rw [unesc_ne c l hc]
      have := unesc_len n l (by simp at h; omega)
      simp; omega
-- a set as four words
/-- Has a set of four words the byte b? -/
def wordsHold (ws : List Int) (b : Int) : Bool := bits .and .u64 (ws.getD (b / 64).toNat 0 / 2 ^ (b % 64).toNat) 1 == 1
def escW1 (ws : List Int) (c : UInt8) : List UInt8 := if wordsHold ws c.toNat then [37, hexCap (c.toNat / 16), hexCap (c.toNat % 16)] else [c]
def escW (ws : List Int) (l : List UInt8) : List UInt8 := l.flatMap (escW1 ws)
def setWs (s : Int) : List Int := if 0 ≤ s ∧ s < 7 then [tabAt (s.toNat * 4), tabAt (s.toNat * 4 + 1), tabAt (s.toNat * 4 + 2), tabAt (s.toNat * 4 + 3)] else [0, 0, 0, 0]
theorem holds_ws (s : Int) (c : UInt8) : wordsHold (setWs s) c.toNat = holdsB s c.toNat := by
  have hc := c.toNat_lt
  have hq : ((c.toNat : Int) / 64).toNat = 0 ∨ ((c.toNat : Int) / 64).toNat = 1 ∨ ((c.toNat : Int) / 64).toNat = 2 ∨ ((c.toNat : Int) / 64).toNat = 3 := by omega
  unfold wordsHold setWs holdsB
  by_cases h : 0 ≤ s ∧ s < 7
  · have e1 : decide (0 ≤ s) = true := decide_eq_true h.1
    have e2 : decide (s < 7) = true := decide_eq_true h.2
    rw [if_pos h, e1, e2, Bool.and_self, Bool.true_and]
    rcases hq with hq | hq | hq | hq <;> rw [hq] <;> rfl
  · rw [if_neg h]
    have e : (decide (0 ≤ s) && decide (s < 7)) = false := by
      by_cases h0 : 0 ≤ s
      · have : ¬ s < 7 := fun h7 => h ⟨h0, h7⟩
        simp [this]
      · simp [h0]
    rw [e, Bool.false_and]
    have z : ([0, 0, 0, 0] : List Int).getD ((c.toNat : Int) / 64).toNat 0 = 0 := by rcases hq with hq | hq | hq | hq <;> rw [hq] <;> rfl
    rw [z, Int.zero_ediv]
    decide
theorem esc_ws (s : Int) (l : List UInt8) : escW (setWs s) l = esc s l := by
  have : escW1 (setWs s) = escB s := by
    funext c
    unfold escW1 escB
    rw [holds_ws]
  unfold escW esc
  rw [this]
theorem escW_snoc (ws : List Int) (l : List UInt8) (c : UInt8) : escW ws (l ++ [c]) = escW ws l ++ escW1 ws c := by
  simp [escW, List.flatMap_append]
theorem escW_len (ws : List Int) : ∀ l : List UInt8, (escW ws l).length ≤ 3 * l.length
  | [] => by simp [escW]
  | c :: l => by
    have := escW_len ws l
    have h1 : (escW1 ws c).length ≤ 3 := by unfold escW1; split <;> simp
    show (escW1 ws c ++ escW ws l).length ≤ _
    rw [List.length_append, List.length_cons]
    omega
end Go.Moor
/-
  What each small function of the packages escape and digit does, as a contract: the byte sets, the values of digits, the calls that look at digits.
-/
namespace Go.Proofs
open Go.RowKit Go.Moor

def Tryz.Sets (w : World) : Prop := ∀ k, k < 28 → w.cell? ⟨13, k, none⟩ = some (.int .u64 (tabAt k))

set_option maxHeartbeats 800000 in
theorem Tryz.setHolds_any (a b c d : Int) (x : UInt8) (w : World) :
    Calls Tryz.prog 168 #[.agg #[.int .u64 a, .int .u64 b, .int .u64 c, .int .u64 d], .int .u8 x.toNat] w fun e w' => e = .returned (.bool (wordsHold [a, b, c, d] x.toNat)) ∧ Below w.heap.size w w' := by
  have HB : Hid (∀ o : Obj, Below w.heap.size w (w.alloc o)) := fun o => (Below.refl _ _).alloc (Nat.le_refl _) o
  have hlt := x.toNat_lt
  have hq : (x.toNat : Int) / 64 = 0 ∨ (x.toNat : Int) / 64 = 1 ∨ (x.toNat : Int) / 64 = 2 ∨ (x.toNat : Int) / 64 = 3 := by omega
  have hx0 : 0 ≤ (x.toNat : Int) := by omega
  have hx1 : (x.toNat : Int) < 256 := by omega
  obtain ⟨y, hy⟩ : ∃ y : Int, y = x.toNat := ⟨_, rfl⟩
  rw [← hy] at hq hx0 hx1 ⊢
  clear hy hlt
  rcases hq with hq | hq | hq | hq
  · have HW : Hid (wordsHold [a, b, c, d] y = (bits .and .u64 (a / 2 ^ (y % 64).toNat) 1 == 1)) := by show _ = _; unfold wordsHold; rw [hq]; rfl
    go_enter Tryz.func168, Tryz.ntmps168
    go_wp2
    go_ret
    rw [HW.out]
    exact ⟨rfl, HB.out _⟩
  · have HW : Hid (wordsHold [a, b, c, d] y = (bits .and .u64 (b / 2 ^ (y % 64).toNat) 1 == 1)) := by show _ = _; unfold wordsHold; rw [hq]; rfl
    go_enter Tryz.func168, Tryz.ntmps168
    go_wp2
    go_ret
    rw [HW.out]
    exact ⟨rfl, HB.out _⟩
  · have HW : Hid (wordsHold [a, b, c, d] y = (bits .and .u64 (c / 2 ^ (y % 64).toNat) 1 == 1)) := by show _ = _; unfold wordsHold; rw [hq]; rfl
    go_enter Tryz.func168, Tryz.ntmps168
    go_wp2
    go_ret
    rw [HW.out]
    exact ⟨rfl, HB.out _⟩
  · have HW : Hid (wordsHold [a, b, c, d] y = (bits .and .u64 (d / 2 ^ (y % 64).toNat) 1 == 1)) := by show _ = _; unfold wordsHold; rw [hq]; rfl
    go_enter Tryz.func168, Tryz.ntmps168
    go_wp2
    go_ret
    rw [HW.out]
    exact ⟨rfl, HB.out _⟩

theorem cell_alloc_old {w : World} {o : Obj} {p : Go.Addr} {v : Value} (h : w.cell? p = some v) (hz : p.block < w.heap.size) : (w.alloc o).cell? p = some v := by
  rw [((Below.refl w.heap.size w).alloc (Nat.le_refl _) o).cell hz]
  exact h
section
variable {P : Program}
/-- A part of a block that a struct or an array fills, read whole. -/
theorem run_loadVar_piece (w : World) (g off : Nat) (ty : TypeId) (cs : Array Value) (d : TypeDesc) (hc : ∀ (j : Nat) v, cs.toList[j]? = some v → w.cell? ⟨g, off + j, none⟩ = some v)
    (hu : P.underlying ty = some d) (hd : (match d with | .struct _ | .array _ _ => true | _ => false) = true) (hi : (P.info? ty).map (·.size) = some cs.size) :
    (loadVar ty ⟨g, off, none⟩).run P w = .ok (.agg cs) w := by
  have hl : (loadCells ⟨g, off, none⟩ cs.toList.length).run P w = .ok cs.toList.toArray w :=
    run_loadCells_list (P := P) w ⟨g, off, none⟩ cs.toList (fun j v hv => by
      have hadd : (⟨g, off, none⟩ : Go.Addr).add j = ⟨g, off + j, none⟩ := by unfold Go.Addr.add; split <;> simp_all
      rw [hadd]
      exact hc j v hv)
  cases hq : P.info? ty with
  | none => simp [hq] at hi
  | some i =>
    have hs : i.size = cs.size := by simpa [hq] using hi
    have hagg : (isAgg ty).run P w = .ok true w := by
      unfold isAgg
      rw [Sem.run_bind, run_underlying hu w]
      cases d <;> simp_all
    simp only [Array.length_toList, Array.toArray_toList] at hl
    simp [loadVar, Sem.run_bind, hagg, sizeOf, typeInfo, hq, hs, hl]
theorem wp_load_piece {o : Oper} {a : Act} {w : World} {K : Act → World → Prop} {Q : Exit → Act → World → Prop} (ty : TypeId) (x : Operand) (ho : o.op = .load ty x)
    (g off : Nat) (hx : a.eval x = .pointer (some ⟨g, off, none⟩)) (cs : Array Value) (d : TypeDesc) (hc : ∀ (j : Nat) v, cs.toList[j]? = some v → w.cell? ⟨g, off + j, none⟩ = some v)
    (hu : P.underlying ty = some d) (hd : (match d with | .struct _ | .array _ _ => true | _ => false) = true) (hi : (P.info? ty).map (·.size) = some cs.size)
    (h : K (a.put o.dst (.agg cs)) w) : o.wp P a w K Q := by
  unfold Oper.wp execOp
  simp only [ho, hx, Instr.loadAt, Instr.sureAddr, Sem.run_bind, Sem.run_pure, Result.andThen_ok, run_loadVar_piece w g off ty cs d hc hu hd hi]
  exact h
theorem wpList_load_piece {ops : Array Oper} {rest : List Oper} {o : Oper} {a : Act} {w : World} {Q : Exit → Act → World → Prop} (hgd : o.guard = none) (ty : TypeId) (x : Operand) (ho : o.op = .load ty x)
    (g off : Nat) (hx : a.eval x = .pointer (some ⟨g, off, none⟩)) (cs : Array Value) (d : TypeDesc) (hc : ∀ (j : Nat) v, cs.toList[j]? = some v → w.cell? ⟨g, off + j, none⟩ = some v)
    (hu : P.underlying ty = some d) (hd : (match d with | .struct _ | .array _ _ => true | _ => false) = true) (hi : (P.info? ty).map (·.size) = some cs.size)
    (h : wpList P ops Q rest (a.put o.dst (.agg cs)) w) : wpList P ops Q (o :: rest) a w :=
  wpList_plain hgd fun _ hK => wp_load_piece ty x ho g off hx cs d hc hu hd hi (hK _ _ h)
end
theorem Tryz.size4 : (Tryz.prog.info? 153).map (·.size) = some 4 := by kernel_rfl
def zero4 : Array Value := #[.int .u64 0, .int .u64 0, .int .u64 0, .int .u64 0]
def words4 (a b c d : Int) : Array Value := #[.int .u64 a, .int .u64 b, .int .u64 c, .int .u64 d]
theorem words4_one (a b c d : Int) : (words4 a b c d).all (·.oneCell') = true := by simp [words4, Value.oneCell']
set_option maxHeartbeats 800000 in
theorem Tryz.setOf_in (s : Int) (a b c d : Int) (w : World) (h0 : 0 ≤ s) (h1 : s < 7) (hz : 13 < w.heap.size)
    (ha : w.cell? ⟨13, s.toNat * 4, none⟩ = some (.int .u64 a)) (hb : w.cell? ⟨13, s.toNat * 4 + 1, none⟩ = some (.int .u64 b)) (hc : w.cell? ⟨13, s.toNat * 4 + 2, none⟩ = some (.int .u64 c)) (hd : w.cell? ⟨13, s.toNat * 4 + 3, none⟩ = some (.int .u64 d)) :
    Calls Tryz.prog 108 #[.int .i64 s] w fun e w' => e = .returned (.agg #[.int .u64 a, .int .u64 b, .int .u64 c, .int .u64 d]) ∧ Below w.heap.size w w' := by
  obtain ⟨W, hW⟩ : ∃ W, W = w.alloc (.cells zero4 153) := ⟨_, rfl⟩
  have HBW : Hid (Below w.heap.size w W) := by rw [hW]; exact (Below.refl _ _).alloc (Nat.le_refl _) _
  have HC : Hid (∀ (j : Nat) v, (words4 a b c d).toList[j]? = some v → W.cell? ⟨13, s.toNat * 4 + j, none⟩ = some v) := by
    intro j v hj
    rw [hW]
    refine cell_alloc_old ?_ hz
    match j, hj with
    | 0, hj => cases hj; exact ha
    | 1, hj => cases hj; exact hb
    | 2, hj => cases hj; exact hc
    | 3, hj => cases hj; exact hd
    | n + 4, hj => cases hj
  clear ha hb hc hd
  have HN : Hid (W.heap[w.heap.size]? = some (.cells zero4 153 (0, 0))) := by show _ = _; rw [hW]; exact heap_alloc_new w _
  go_enter Tryz.func108, Tryz.ntmps108
  go_wp2_with (first | refine wpList_load_piece rfl 153 _ rfl 13 (s.toNat * 4) rfl (words4 a b c d) _ (by have := HC.out; rw [hW] at this; exact this) Tryz.underlying153 rfl Tryz.size4 ?_ | refine wpList_store_row rfl 153 _ _ rfl w.heap.size (words4 a b c d) rfl rfl 153 zero4 (by have := HN.out; rw [hW] at this; exact this) Tryz.size4 rfl (words4_one a b c d) ?_)
  (try simp only [Exit.inBlock, Exit.then])
  refine bodyPost_ret (v := .agg (words4 a b c d)) ?_ rfl ⟨rfl, ?_⟩
  · exact results_cell_row rfl _ _ w.heap.size 153 (words4 a b c d) (0, 0) _ rfl (setRow_heap _ w.heap.size zero4 (words4 a b c d) 153 (0, 0) (by have := HN.out; rw [hW] at this; exact this)) Tryz.underlying153 rfl Tryz.size4
  · refine below_setRow ?_ (Nat.le_refl _) _
    have := HBW.out
    rw [hW] at this
    exact this

set_option maxHeartbeats 400000 in
theorem Tryz.setOf_low (s : Int) (w : World) (h0 : s < 0) :
    Calls Tryz.prog 108 #[.int .i64 s] w fun e w' => e = .returned (.agg #[.int .u64 0, .int .u64 0, .int .u64 0, .int .u64 0]) ∧ Below w.heap.size w w' := by
  have HB : Hid (∀ o : Obj, Below w.heap.size w (w.alloc o)) := fun o => (Below.refl _ _).alloc (Nat.le_refl _) o
  go_enter Tryz.func108, Tryz.ntmps108
  go_wp2
  refine bodyPost_ret (v := .agg zero4) ?_ rfl ⟨rfl, HB.out _⟩
  exact results_cell_row rfl _ _ w.heap.size 153 zero4 (0, 0) _ rfl (heap_alloc_new w _) Tryz.underlying153 rfl Tryz.size4
set_option maxHeartbeats 400000 in
theorem Tryz.setOf_high (s : Int) (w : World) (h0 : 7 ≤ s) :
    Calls Tryz.prog 108 #[.int .i64 s] w fun e w' => e = .returned (.agg #[.int .u64 0, .int .u64 0, .int .u64 0, .int .u64 0]) ∧ Below w.heap.size w w' := by
  have HB : Hid (∀ o : Obj, Below w.heap.size w (w.alloc o)) := fun o => (Below.refl _ _).alloc (Nat.le_refl _) o
  go_enter Tryz.func108, Tryz.ntmps108
  go_wp2
  refine bodyPost_ret (v := .agg zero4) ?_ rfl ⟨rfl, HB.out _⟩
  exact results_cell_row rfl _ _ w.heap.size 153 zero4 (0, 0) _ rfl (heap_alloc_new w _) Tryz.underlying153 rfl Tryz.size4

/-- A set of four words, as a value. -/
def wordsV (ws : List Int) : Value := .agg #[.int .u64 (ws.getD 0 0), .int .u64 (ws.getD 1 0), .int .u64 (ws.getD 2 0), .int .u64 (ws.getD 3 0)]
theorem Tryz.setOf_any (s : Int) (w : World) (hs : Tryz.Sets w) (hz : 13 < w.heap.size) :
    Calls Tryz.prog 108 #[.int .i64 s] w fun e w' => e = .returned (wordsV (setWs s)) ∧ Below w.heap.size w w' := by
  by_cases h0 : s < 0
  · have e : setWs s = [0, 0, 0, 0] := by unfold setWs; rw [if_neg (by omega)]
    rw [e]
    exact Tryz.setOf_low s w h0
  · by_cases h1 : 7 ≤ s
    · have e : setWs s = [0, 0, 0, 0] := by unfold setWs; rw [if_neg (by omega)]
      rw [e]
      exact Tryz.setOf_high s w h1
    · have e : setWs s = [tabAt (s.toNat * 4), tabAt (s.toNat * 4 + 1), tabAt (s.toNat * 4 + 2), tabAt (s.toNat * 4 + 3)] := by unfold setWs; rw [if_pos (by omega)]
      rw [e]
      exact Tryz.setOf_in s _ _ _ _ w (by omega) (by omega) hz (hs _ (by omega)) (hs _ (by omega)) (hs _ (by omega)) (hs _ (by omega))
set_option maxHeartbeats 400000 in
theorem Tryz.holds_any (s : Int) (c : UInt8) (w : World) (hs : Tryz.Sets w) (hz : 13 < w.heap.size) :
    Calls Tryz.prog 142 #[.int .i64 s, .int .u8 c.toNat] w fun e w' => e = .returned (.bool (holdsB s c.toNat)) ∧ Below w.heap.size w w' := by
  have HS : Hid (Calls Tryz.prog 108 #[.int .i64 s] w fun e w' => e = .returned (wordsV (setWs s)) ∧ Below w.heap.size w w') := Tryz.setOf_any s w hs hz
  have HE : Hid (wordsHold [(setWs s).getD 0 0, (setWs s).getD 1 0, (setWs s).getD 2 0, (setWs s).getD 3 0] c.toNat = holdsB s c.toNat) := by
    show _ = _
    rw [← holds_ws]
    unfold setWs
    split <;> rfl
  unfold wordsV at HS
  generalize (setWs s).getD 0 0 = a0 at *
  generalize (setWs s).getD 1 0 = a1 at *
  generalize (setWs s).getD 2 0 = a2 at *
  generalize (setWs s).getD 3 0 = a3 at *
  clear hs hz
  go_enter Tryz.func142, Tryz.ntmps142
  go_wp2_with fail
  refine HS.out.mono ?_
  rintro e w1 ⟨rfl, b1⟩
  go_wp2_with fail
  refine (Tryz.setHolds_any a0 a1 a2 a3 c w1).mono ?_
  rintro e w2 ⟨rfl, b2⟩
  go_wp2
  go_ret
  rw [HE.out]
  exact ⟨rfl, b1.trans (b2.mono b1.size)⟩
set_option maxHeartbeats 400000 in
theorem Tryz.value_num (b : Int) (w : World) (hb0 : 0 ≤ b) (hb1 : b < 256) (h : 48 ≤ b ∧ b ≤ 57) :
    Calls Tryz.prog 115 #[.int .u8 b] w fun e w' => e = .returned (.int .u64 (hexVal b)) ∧ w' = w := by
  have hv : hexVal b = b - 48 := by unfold hexVal; rw [if_pos h]
  rw [hv]
  obtain ⟨h1, h2⟩ := h
  clear hv
  go_enter Tryz.func115, Tryz.ntmps115
  go_wp2
  go_ret
  exact ⟨rfl, rfl⟩
set_option maxHeartbeats 400000 in
theorem Tryz.value_cap (b : Int) (w : World) (hb0 : 0 ≤ b) (hb1 : b < 256) (h : 65 ≤ b ∧ b ≤ 70) :
    Calls Tryz.prog 115 #[.int .u8 b] w fun e w' => e = .returned (.int .u64 (hexVal b)) ∧ w' = w := by
  have hv : hexVal b = b - 65 + 10 := by unfold hexVal; rw [if_neg (by omega), if_pos h]; omega
  rw [hv]
  obtain ⟨h1, h2⟩ := h
  clear hv
  go_enter Tryz.func115, Tryz.ntmps115
  go_wp2
  go_ret
  exact ⟨rfl, rfl⟩
set_option maxHeartbeats 400000 in
theorem Tryz.value_small (b : Int) (w : World) (hb0 : 0 ≤ b) (hb1 : b < 256) (h : 97 ≤ b ∧ b ≤ 102) :
    Calls Tryz.prog 115 #[.int .u8 b] w fun e w' => e = .returned (.int .u64 (hexVal b)) ∧ w' = w := by
  have hv : hexVal b = b - 97 + 10 := by unfold hexVal; rw [if_neg (by omega), if_neg (by omega), if_pos h]; omega
  rw [hv]
  obtain ⟨h1, h2⟩ := h
  clear hv
  go_enter Tryz.func115, Tryz.ntmps115
  go_wp2
  go_ret
  exact ⟨rfl, rfl⟩
set_option maxHeartbeats 1000000 in
theorem Tryz.value_none (b : Int) (w : World) (hb0 : 0 ≤ b) (hb1 : b < 256) (h1 : ¬ (48 ≤ b ∧ b ≤ 57)) (h2 : ¬ (65 ≤ b ∧ b ≤ 70)) (h3 : ¬ (97 ≤ b ∧ b ≤ 102)) :
    Calls Tryz.prog 115 #[.int .u8 b] w fun e w' => e = .returned (.int .u64 (hexVal b)) ∧ w' = w := by
  have hv : hexVal b = 16 := by unfold hexVal; rw [if_neg h1, if_neg h2, if_neg h3]
  rw [hv]
  clear hv
  have hh : (b < 48) ∨ (57 < b ∧ b < 65) ∨ (70 < b ∧ b < 97) ∨ 102 < b := by omega
  clear h1 h2 h3
  rcases hh with h | ⟨h, h'⟩ | ⟨h, h'⟩ | h <;> go_enter Tryz.func115, Tryz.ntmps115 <;> go_wp2 <;> go_ret <;> exact ⟨rfl, rfl⟩

theorem Tryz.value_any (b : Int) (w : World) (hb0 : 0 ≤ b) (hb1 : b < 256) :
    Calls Tryz.prog 115 #[.int .u8 b] w fun e w' => e = .returned (.int .u64 (hexVal b)) ∧ w' = w := by
  by_cases h1 : 48 ≤ b ∧ b ≤ 57
  · exact Tryz.value_num b w hb0 hb1 h1
  · by_cases h2 : 65 ≤ b ∧ b ≤ 70
    · exact Tryz.value_cap b w hb0 hb1 h2
    · by_cases h3 : 97 ≤ b ∧ b ≤ 102
      · exact Tryz.value_small b w hb0 hb1 h3
      · exact Tryz.value_none b w hb0 hb1 h1 h2 h3
end Go.Proofs
