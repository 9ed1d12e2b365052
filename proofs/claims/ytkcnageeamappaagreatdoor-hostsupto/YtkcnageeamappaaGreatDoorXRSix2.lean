import Derived.Test.YtkcnageeamappaaGreatDoorXHMarks
namespace Go.Moor
open Go
def hexTake : Nat → Bs → Bs
  | 0, _ => []
  | _, [] => []
  | k + 1, c :: l => if hexVal c.toNat < 16 then c :: hexTake k l else []
theorem hexTake_append : ∀ (k : Nat) (l : Bs), ∃ r, l = hexTake k l ++ r ∧ (∀ c ∈ hexTake k l, hexVal c.toNat < 16) ∧ (hexTake k l).length ≤ k ∧ ((hexTake k l).length < k → ∀ c y, r = c :: y → ¬ hexVal c.toNat < 16)
  | 0, l => ⟨l, rfl, fun c hc => (by cases hc), Nat.le_refl _, fun h => (by simp [hexTake] at h)⟩
  | k + 1, [] => ⟨[], rfl, fun c hc => (by cases hc), Nat.zero_le _, fun _ c y h => (by cases h)⟩
  | k + 1, c :: l => by
    by_cases hc : hexVal c.toNat < 16
    · obtain ⟨r, h1, h2, h3, h4⟩ := hexTake_append k l
      refine ⟨r, ?_, ?_, ?_, ?_⟩
      · rw [hexTake, if_pos hc, List.cons_append, ← h1]
      · rw [hexTake, if_pos hc]
        intro x hx
        rcases List.mem_cons.1 hx with rfl | hx
        · exact hc
        · exact h2 x hx
      · rw [hexTake, if_pos hc]; simp; omega
      · rw [hexTake, if_pos hc]
        intro h
        exact h4 (by simp at h; omega)
    · refine ⟨c :: l, ?_, ?_, ?_, ?_⟩
      · rw [hexTake, if_neg hc]; rfl
      · rw [hexTake, if_neg hc]; exact fun x hx => by cases hx
      · rw [hexTake, if_neg hc]; simp
      · intro _ x y h
        injection h with h _
        subst h
        exact hc
def hexNum : Int → Bs → Int
  | v, [] => v
  | v, c :: l => hexNum (16 * v + hexVal c.toNat) l
def sixRest : Nat → Bs → List Int → Option Nat → Option (List Int × Option Nat)
  | 0, _, _, _ => none
  | _ + 1, [], ps, short => some (ps, short)
  | n + 1, c :: r, ps, short =>
    if ps.length = 8 then none
    else if c = 58 then (if short.isSome then none else sixRest n r (ps ++ [0]) (some (ps.length + 1)))
    else if ((c :: r).drop (hexTake 4 (c :: r)).length).head? = some 46 then (match sixDotted (c :: r) with | some a => if ps.length ≤ 6 then some (ps ++ [a / 65536, a % 65536], short) else none | none => none)
    else if hexTake 4 (c :: r) = [] then none
    else match (c :: r).drop (hexTake 4 (c :: r)).length with
      | [] => some (ps ++ [hexNum 0 (hexTake 4 (c :: r))], short)
      | d :: y => if d ≠ 58 ∨ y = [] then none else sixRest n y (ps ++ [hexNum 0 (hexTake 4 (c :: r))]) short
def sixEnd : Option (List Int × Option Nat) → Option (List Int)
  | none => none
  | some (ps, none) => if ps.length = 8 then some ps else none
  | some (ps, some k) => some (ps.take k ++ (List.replicate (8 - ps.length) 0 ++ ps.drop k))
def sixScan (l : Bs) : Option (List Int) :=
  match l with
  | 58 :: 58 :: r => sixEnd (sixRest (l.length + 1) r [0] (some 1))
  | 58 :: _ => none
  | _ => sixEnd (sixRest (l.length + 1) l [] none)
theorem hexNum_acc : ∀ (l : Bs) (v : Int), (∀ c ∈ l, hexVal c.toNat < 16) → 0 ≤ v → v < 65536 / 16 ^ l.length → l.length ≤ 4 → digAcc 16 65535 v l = some (hexNum v l)
  | [], v, _, _, _, _ => rfl
  | c :: l, v, h, h0, h1, h4 => by
    have hc := h c (by simp)
    have hr := hexVal_range (c.toNat : Int)
    have hlen : l.length ≤ 3 := by simpa using h4
    rw [digAcc, if_pos hc, hexNum, Int.mul_comm 16 v]
    have hb : v * 16 + hexVal c.toNat < 65536 / 16 ^ l.length := by
      have hl : l.length = 0 ∨ l.length = 1 ∨ l.length = 2 ∨ l.length = 3 := by omega
      simp only [List.length_cons] at h1
      rcases hl with hl | hl | hl | hl <;> rw [hl] at h1 ⊢ <;> simp at h1 ⊢ <;> omega
    have hb2 : v * 16 + hexVal c.toNat ≤ 65535 := by
      have hl : l.length = 0 ∨ l.length = 1 ∨ l.length = 2 ∨ l.length = 3 := by omega
      rcases hl with hl | hl | hl | hl <;> rw [hl] at hb <;> simp at hb <;> omega
    rw [if_pos hb2]
    exact hexNum_acc l _ (fun x hx => h x (by simp [hx])) (by omega) hb (by omega)
theorem hex_piece (x : Bs) (h : ∀ c ∈ x, hexVal c.toNat < 16) (h4 : x.length ≤ 4) (h0 : x ≠ []) : sixPiece x = some (hexNum 0 x) := by
  unfold sixPiece
  have : 0 < x.length := List.length_pos_iff.2 h0
  rw [if_neg (by omega)]
  refine hexNum_acc x 0 h (by omega) ?_ h4
  have hl : x.length = 1 ∨ x.length = 2 ∨ x.length = 3 ∨ x.length = 4 := by omega
  rcases hl with hl | hl | hl | hl <;> rw [hl] <;> decide
theorem digAcc_big (b : UInt8) (l : Bs) (v : Int) (h : 26 ≤ v) : digAcc 10 255 v (b :: l) = none := by
  have := hexVal_range (b.toNat : Int)
  rw [digAcc]
  split
  · rw [if_neg (by omega)]
  · rfl
theorem digAcc_more (b : UInt8) (l : Bs) (v k : Int) (hk : k ≤ v) (h : ∀ u, 10 * k ≤ u → digAcc 10 255 u l = none) : digAcc 10 255 v (b :: l) = none := by
  have := hexVal_range (b.toNat : Int)
  rw [digAcc]
  split
  · split
    · exact h _ (by omega)
    · rfl
  · rfl
theorem nought_fin : ∀ k : Fin 256, hexVal k.val = 0 → k.val = 48 := by decide +kernel
theorem dec_long (a b c d : UInt8) (p : Bs) : plainDec (a :: b :: c :: d :: p) = none := by
  unfold plainDec
  rw [if_neg (by simp)]
  split
  · rfl
  · rename_i hnz
    have ra := hexVal_range (a.toNat : Int)
    have ha0 : hexVal a.toNat ≠ 0 := by
      intro h0
      refine hnz ⟨?_, by simp⟩
      rw [of_toNat a 48 (nought_fin ⟨a.toNat, a.toNat_lt⟩ h0)]
      rfl
    rw [digAcc]
    split
    · split
      · refine digAcc_more b _ _ 1 (by omega) fun u hu => digAcc_more c _ u 10 hu fun v hv => digAcc_big d _ v (by omega)
      · rfl
    · rfl
theorem split_piece (c : UInt8) (l x : Bs) (xs : List Bs) (h : splitOn c l = x :: xs) : (xs = [] ∧ l = x ∧ ∀ b ∈ x, b ≠ c) ∨ ∃ r, l = x ++ c :: r ∧ splitOn c r = xs ∧ ∀ b ∈ x, b ≠ c := by
  rcases first_of c l with hn | ⟨a, b, rfl, ha⟩
  · rw [splitOn_miss c l hn] at h
    injection h with h1 h2
    subst h1; subst h2
    exact Or.inl ⟨rfl, rfl, hn⟩
  · rw [splitOn_hit c b a ha] at h
    injection h with h1 h2
    subst h1
    exact Or.inr ⟨b, rfl, h2, ha⟩
theorem hex_ne58 (c : UInt8) (h : hexVal c.toNat < 16) : c ≠ 58 ∧ c ≠ 46 := by
  refine ⟨?_, ?_⟩ <;> rintro rfl <;> exact absurd h (by decide)
theorem indexByte_mem (l : Bs) (c : UInt8) : 0 ≤ Lib.indexByte l c ↔ c ∈ l := by
  rcases indexByte_split c l with ⟨h1, h2⟩ | ⟨p, r, h1, h2, h3⟩
  · rw [h1]
    exact ⟨fun h => by omega, fun h => absurd rfl (h2 c h)⟩
  · rw [h3, h1]
    exact ⟨fun _ => by simp, fun _ => by omega⟩
theorem sixAcc_eq : ∀ (l : List Bs) (ps : List Int), sixAcc ps l = (sixPieces l).map (ps ++ ·)
  | [], ps => by simp [sixPieces, sixAcc]
  | x :: l, ps => by
    unfold sixPieces
    rw [sixAcc, sixAcc]
    cases sixPiece x with
    | none => rfl
    | some n =>
      show sixAcc (ps ++ [n]) l = Option.map (ps ++ ·) (sixAcc ([] ++ [n]) l)
      rw [sixAcc_eq l (ps ++ [n]), sixAcc_eq l ([] ++ [n]), Option.map_map]
      congr 1
      funext y
      simp
theorem sixPieces_cons (x : Bs) (l : List Bs) : sixPieces (x :: l) = match sixPiece x with | some n => (sixPieces l).map (n :: ·) | none => none := by
  unfold sixPieces
  rw [sixAcc]
  cases sixPiece x with
  | none => rfl
  | some n =>
    show sixAcc ([] ++ [n]) l = _
    rw [sixAcc_eq]
    rfl
theorem sixLast_cons (x y : Bs) (l : List Bs) : sixLast (x :: y :: l) = match sixPiece x with | some n => (sixLast (y :: l)).map (n :: ·) | none => none := by
  unfold sixLast
  have e1 : (x :: y :: l).getLast? = (y :: l).getLast? := by simp [List.getLast?_cons]
  rw [e1]
  cases hg : (y :: l).getLast? with
  | none => simp at hg
  | some z =>
    simp only
    have e2 : (x :: y :: l).dropLast = x :: (y :: l).dropLast := rfl
    rw [e2, sixPieces_cons, sixPieces_cons]
    cases sixPiece x with
    | none =>
      split
      · simp [sixJoin]
      · rfl
    | some n =>
      split
      · cases sixPieces (y :: l).dropLast with
        | none => simp [sixJoin]
        | some ps =>
          cases sixDotted z with
          | none => simp [sixJoin]
          | some a => simp [sixJoin]
      · rfl
theorem sixLast_one (x : Bs) : sixLast [x] = if 46 ∈ x then (sixDotted x).map (fun a => [a / 65536, a % 65536]) else (sixPiece x).map fun n => [n] := by
  unfold sixLast
  simp only [List.getLast?_singleton, indexByte_mem]
  split
  · cases sixDotted x with
    | none => rfl
    | some a => rfl
  · rw [sixPieces_cons]
    cases sixPiece x with
    | none => rfl
    | some n => rfl
theorem piece_none (x : Bs) (c : UInt8) (hc : c ∈ x) (h : ¬ hexVal c.toNat < 16) : sixPiece x = none := by
  cases hp : sixPiece x with
  | none => rfl
  | some n =>
    unfold sixPiece at hp
    split at hp
    · cases hp
    · exact absurd (digAcc_bytes 16 65535 x 0 n hp c hc) h
theorem piece_long (x : Bs) (h : 4 < x.length) : sixPiece x = none := by
  unfold sixPiece
  rw [if_pos (Or.inr h)]
theorem dotted_none (l : Bs) (c : UInt8) (hc : c ∈ l) (h : ¬ hexVal c.toNat < 16) (h46 : c ≠ 46) : sixDotted l = none := by
  cases hd : sixDotted l with
  | none => rfl
  | some a =>
    unfold sixDotted at hd
    split at hd
    · rcases splitOn_in 46 l c hc with h1 | ⟨x, hx, hcx⟩
      · exact absurd h1 h46
      · exact absurd (dotAcc_bytes _ _ _ hd x hx c hcx) h
    · cases hd
def sixNext (n : Nat) (xs : List Bs) (r : Bs) (ps : List Int) (short : Option Nat) : Option (List Int × Option Nat) := if xs = [] then some (ps, short) else if r = [] then none else sixRest n r ps short
theorem rest_piece (n : Nat) (l x : Bs) (xs : List Bs) (r : Bs) (hx : splitOn 58 l = x :: xs) (hr : (xs = [] ∧ l = x ∧ r = []) ∨ (l = x ++ 58 :: r ∧ splitOn 58 r = xs)) (hne : x ≠ []) (ps : List Int) (h8 : ps.length < 8) (short : Option Nat) :
    sixRest (n + 1) l ps short = if xs = [] ∧ 46 ∈ x then (match sixDotted x with | some a => if ps.length ≤ 6 then some (ps ++ [a / 65536, a % 65536], short) else none | none => none) else match sixPiece x with | some v => sixNext n xs r (ps ++ [v]) short | none => none := by
  have hx58 : ∀ b ∈ x, b ≠ 58 := by
    rcases split_piece 58 l x xs hx with ⟨_, _, h⟩ | ⟨_, _, _, h⟩
    · exact h
    · exact h
  obtain ⟨c, x', rfl⟩ : ∃ c x', x = c :: x' := by
    cases x with
    | nil => exact absurd rfl hne
    | cons c x' => exact ⟨c, x', rfl⟩
  have hc58 : c ≠ 58 := hx58 c (by simp)
  obtain ⟨l', hl⟩ : ∃ l', l = c :: l' := by
    rcases hr with ⟨_, h, _⟩ | ⟨h, _⟩
    · exact ⟨x', h⟩
    · exact ⟨x' ++ 58 :: r, h⟩
  obtain ⟨t, ht1, ht2, ht3, ht4⟩ := hexTake_append 4 l
  have hdrop : l.drop (hexTake 4 l).length = t := by
    have := congrArg (List.drop (hexTake 4 l).length) ht1
    rw [List.drop_left] at this
    exact this
  rw [hl, sixRest, if_neg (by omega), if_neg hc58, ← hl, hdrop]
  generalize hh : hexTake 4 l = h4 at *
  rcases hr with ⟨rfl, hlx, rfl⟩ | ⟨hlx, hxs⟩
  ·
    rw [← hlx] at hx58 ⊢
    have hlne : l ≠ [] := by rw [hl]; simp
    clear hx hlx
    cases t with
    | nil =>
      rw [List.append_nil] at ht1
      have hno : ¬ (46 ∈ l) := fun h => (hex_ne58 46 (ht2 46 (by rw [← ht1]; exact h))).2 rfl
      rw [if_neg (by simp), if_neg (by rw [← ht1]; exact hlne), if_neg (fun h => hno h.2)]
      have hp := hex_piece h4 ht2 ht3 (by rw [← ht1]; exact hlne)
      rw [ht1, hp]
      simp only [sixNext, if_true]
    | cons d y =>
      by_cases hd : d = 46
      · subst hd
        have h46 : 46 ∈ l := by rw [ht1]; simp
        rw [if_pos (by rfl), if_pos ⟨rfl, h46⟩]
      · rw [if_neg (by simpa using hd)]
        have hd58 : d ≠ 58 := hx58 d (by rw [ht1]; simp)
        have hcase : h4.length < 4 → ¬ hexVal d.toNat < 16 := fun h => ht4 h d y rfl
        have hpn : sixPiece l = none := by
          by_cases hlen : h4.length < 4
          · exact piece_none l d (by rw [ht1]; simp) (hcase hlen)
          · refine piece_long l ?_
            rw [ht1]
            simp
            omega
        have hrhs : (if ([] : List Bs) = [] ∧ 46 ∈ l then (match sixDotted l with | some a => if ps.length ≤ 6 then some (ps ++ [a / 65536, a % 65536], short) else none | none => none) else match sixPiece l with | some v => sixNext n [] [] (ps ++ [v]) short | none => none) = none := by
          rw [hpn]
          split
          · have : sixDotted l = none := by
              by_cases hlen : h4.length < 4
              · exact dotted_none l d (by rw [ht1]; simp) (hcase hlen) hd
              · have h44 : h4.length = 4 := by omega
                by_cases hdh : hexVal d.toNat < 16
                ·
                  cases hdd : sixDotted l with
                  | none => rfl
                  | some a =>
                    unfold sixDotted at hdd
                    split at hdd
                    · rcases first_of 46 y with hn | ⟨p, q, rfl, hp⟩
                      · have hno : ¬ (46 ∈ l) := by
                          rw [ht1]
                          intro h
                          rcases List.mem_append.1 h with h | h
                          · exact (hex_ne58 46 (ht2 46 h)).2 rfl
                          · rcases List.mem_cons.1 h with h | h
                            · exact hd h.symm
                            · exact hn 46 h rfl
                        rename_i h46 _
                        exact absurd h46.2 hno
                      · have hsp : splitOn 46 l = (h4 ++ d :: p) :: splitOn 46 q := by
                          rw [ht1, show h4 ++ d :: (p ++ 46 :: q) = (h4 ++ d :: p) ++ 46 :: q from by simp]
                          refine splitOn_hit 46 q _ ?_
                          intro b hb
                          rcases List.mem_append.1 hb with hb | hb
                          · exact (hex_ne58 b (ht2 b hb)).2
                          · rcases List.mem_cons.1 hb with rfl | hb
                            · exact hd
                            · exact hp b hb
                        rw [hsp, dotAcc] at hdd
                        have : plainDec (h4 ++ d :: p) = none := by
                          match h4, h44 with
                          | [a1, b1, c1, e1], _ => exact dec_long a1 b1 c1 e1 (d :: p)
                        rw [this] at hdd
                        cases hdd
                    · cases hdd
                · exact dotted_none l d (by rw [ht1]; simp) hdh hd
            rw [this]
          · rfl
        rw [hrhs]
        split
        · rfl
        · exact if_pos (Or.inl hd58)
  · have hxs2 : xs ≠ [] := fun h => splitOn_ne 58 r (by rw [hxs, h])
    rw [if_neg (show ¬ (xs = [] ∧ 46 ∈ c :: x') from fun h => hxs2 h.1)]
    rcases Nat.lt_trichotomy h4.length (c :: x').length with hlt | heq | hgt
    ·
      have hpre : ∃ d y', c :: x' = h4 ++ d :: y' ∧ t = d :: (y' ++ 58 :: r) := by
        have e1 : h4 = (c :: x').take h4.length := by
          have := congrArg (List.take h4.length) (ht1.symm.trans hlx)
          rw [List.take_left, List.take_append_of_le_length (by omega)] at this
          exact this
        have e2 : t = (c :: x').drop h4.length ++ 58 :: r := by
          have := congrArg (List.drop h4.length) (ht1.symm.trans hlx)
          rw [List.drop_left, List.drop_append_of_le_length (by omega)] at this
          exact this
        cases hd : (c :: x').drop h4.length with
        | nil => have := congrArg List.length hd; simp at this; simp at hlt; omega
        | cons d y' =>
          refine ⟨d, y', ?_, ?_⟩
          · conv => lhs; rw [← List.take_append_drop h4.length (c :: x')]
            rw [← e1, hd]
          · rw [e2, hd]; rfl
      obtain ⟨d, y', hx', rfl⟩ := hpre
      have hd58 : d ≠ 58 := hx58 d (by rw [hx']; simp)
      have hpn : sixPiece (c :: x') = none := by
        by_cases hlen : h4.length < 4
        · exact piece_none _ d (by rw [hx']; simp) (ht4 hlen d _ rfl)
        · exact piece_long _ (by omega)
      rw [hpn]
      simp only
      by_cases hd : d = 46
      · subst hd
        rw [if_pos (by rfl), dotted_none l 58 (by rw [hlx]; simp) (by decide) (by decide)]
      · rw [if_neg (by simpa using hd)]
        split
        · rfl
        · exact if_pos (Or.inl hd58)
    · have e1 : h4 = c :: x' ∧ t = 58 :: r := by
        have := ht1.symm.trans hlx
        exact List.append_inj this heq
      obtain ⟨e1, rfl⟩ := e1
      subst e1
      rw [if_neg (by simp), if_neg (by simp), hex_piece _ ht2 ht3 (by simp)]
      simp only [sixNext]
      rw [if_neg hxs2]
      by_cases hr0 : r = []
      · rw [if_pos hr0, if_pos (Or.inr hr0)]
      · rw [if_neg hr0, if_neg (fun h => by rcases h with h | h; exact h rfl; exact hr0 h)]
    ·
      have : (58 : UInt8) ∈ h4 := by
        have e1 : h4 = (c :: x' ++ 58 :: r).take h4.length := by
          have := congrArg (List.take h4.length) (ht1.symm.trans hlx)
          rw [List.take_left] at this
          exact this
        rw [e1, List.take_append]
        refine List.mem_append_right _ ?_
        obtain ⟨k, hk⟩ : ∃ k, h4.length - (c :: x').length = k + 1 := ⟨h4.length - (c :: x').length - 1, by omega⟩
        rw [hk]
        simp
      exact absurd (ht2 58 this) (by decide)
end Go.Moor
namespace Go.Moor
open Go
def sixMore (ps : List Int) (short : Option Nat) (o : Option (List Int)) : Option (List Int × Option Nat) :=
  match o with
  | some qs => if ps.length + qs.length ≤ 8 then some (ps ++ qs, short) else none
  | none => none
theorem sixLast_ne (x : Bs) (xs : List Bs) (qs : List Int) (h : sixLast (x :: xs) = some qs) : qs ≠ [] := by
  cases xs with
  | nil =>
    rw [sixLast_one] at h
    split at h
    · cases hd : sixDotted x with
      | none => rw [hd] at h; cases h
      | some a => rw [hd] at h; simp at h; rw [← h]; simp
    · cases hd : sixPiece x with
      | none => rw [hd] at h; cases h
      | some a => rw [hd] at h; simp at h; rw [← h]; simp
  | cons y l =>
    rw [sixLast_cons] at h
    cases hd : sixPiece x with
    | none => rw [hd] at h; cases h
    | some n =>
      rw [hd] at h
      simp only at h
      cases hl : sixLast (y :: l) with
      | none => rw [hl] at h; cases h
      | some zs => rw [hl] at h; simp at h; rw [← h]; simp
theorem piece_nil : sixPiece [] = none := by decide
theorem sixSplit_ne (l : Bs) (h : l ≠ []) : sixSplit l = splitOn 58 l := by unfold sixSplit; rw [if_neg h]
theorem cc_suffix (a l : Bs) (h : hasCC (a ++ l) = false) : hasCC l = false := by
  induction a with
  | nil => exact h
  | cons c a ih =>
    have h : ((c == 58 && (a ++ l).head? == some 58) || hasCC (a ++ l)) = false := h
    rw [Bool.or_eq_false_iff] at h
    exact ih h.2
theorem cc_next (a r : Bs) (h : hasCC (a ++ 58 :: r) = false) : hasCC r = false ∧ r.head? ≠ some 58 := by
  have h1 := cc_suffix a _ h
  have h1 : (((58 : UInt8) == 58 && r.head? == some 58) || hasCC r) = false := h1
  rw [Bool.or_eq_false_iff] at h1
  refine ⟨h1.2, fun e => ?_⟩
  rw [e] at h1
  exact absurd h1.1 (by decide)
theorem rest_last : ∀ (n : Nat) (l : Bs) (ps : List Int) (short : Option Nat), l.length < n → ps.length ≤ 8 → (short.isSome = true ∨ (hasCC l = false ∧ l.head? ≠ some 58)) → sixRest n l ps short = sixMore ps short (sixLast (sixSplit l))
  | 0, l, ps, short, hn, _, _ => by omega
  | n + 1, [], ps, short, _, h8, _ => by
    rw [sixRest]
    show _ = if ps.length + 0 ≤ 8 then some (ps ++ [], short) else none
    rw [if_pos (by omega), List.append_nil]
  | n + 1, c :: l', ps, short, hn, h8, hs => by
    obtain ⟨x, xs, hx⟩ : ∃ x xs, splitOn 58 (c :: l') = x :: xs := by
      cases hx : splitOn 58 (c :: l') with
      | nil => exact absurd hx (splitOn_ne 58 _)
      | cons x xs => exact ⟨x, xs, rfl⟩
    rw [sixSplit_ne _ (by simp), hx]
    by_cases he : ps.length = 8
    · have hl : sixRest (n + 1) (c :: l') ps short = none := by rw [sixRest, if_pos he]
      rw [hl]
      unfold sixMore
      cases hq : sixLast (x :: xs) with
      | none => rfl
      | some qs =>
        have := List.length_pos_iff.2 (sixLast_ne x xs qs hq)
        simp only
        rw [if_neg (by omega)]
    · by_cases hxe : x = []
      · subst hxe
        rcases split_piece 58 _ _ _ hx with ⟨_, h, _⟩ | ⟨r, h, h2, _⟩
        · cases h
        · injection h with hc hl
          subst hc
          have hss : short.isSome = true := by
            rcases hs with hs | hs
            · exact hs
            · exact absurd rfl hs.2
          rw [sixRest, if_neg he, if_pos rfl, if_pos hss]
          cases xs with
          | nil => exact absurd h2 (splitOn_ne 58 r)
          | cons y ys => rw [sixLast_cons, piece_nil]; rfl
      · rcases split_piece 58 _ _ _ hx with ⟨rfl, hlx, _⟩ | ⟨r, hlx, h2, _⟩
        · rw [rest_piece n _ x [] [] hx (Or.inl ⟨rfl, hlx, rfl⟩) hxe ps (by omega) short, sixLast_one]
          by_cases h46 : 46 ∈ x
          · rw [if_pos ⟨rfl, h46⟩, if_pos h46]
            cases sixDotted x with
            | none => rfl
            | some a =>
              simp only [Option.map_some, sixMore, List.length_cons, List.length_nil]
              by_cases h6 : ps.length ≤ 6
              · rw [if_pos h6, if_pos (by omega)]
              · rw [if_neg h6, if_neg (by omega)]
          · rw [if_neg (fun h => h46 h.2), if_neg h46]
            cases sixPiece x with
            | none => rfl
            | some v =>
              simp only [Option.map_some, sixMore, List.length_cons, List.length_nil, sixNext, if_true]
              rw [if_pos (by omega)]
        · have hxs : xs ≠ [] := fun h => splitOn_ne 58 r (by rw [h2, h])
          rw [rest_piece n _ x xs r hx (Or.inr ⟨hlx, h2⟩) hxe ps (by omega) short, if_neg (fun h => hxs h.1)]
          obtain ⟨y, ys, rfl⟩ : ∃ y ys, xs = y :: ys := by
            cases xs with
            | nil => exact absurd rfl hxs
            | cons y ys => exact ⟨y, ys, rfl⟩
          rw [sixLast_cons]
          cases sixPiece x with
          | none => rfl
          | some v =>
            simp only [sixNext]
            rw [if_neg hxs]
            by_cases hr : r = []
            · subst hr
              have h3 : (y :: ys : List Bs) = [[]] := h2.symm
              rw [if_pos rfl, h3, sixLast_one, piece_nil]
              rfl
            · rw [if_neg hr]
              have hlen : r.length < n := by
                have := congrArg List.length hlx
                simp at this hn
                omega
              rw [rest_last n r (ps ++ [v]) short hlen (by simp; omega) (by
                rcases hs with hs | hs
                · exact Or.inl hs
                · rw [hlx] at hs
                  exact Or.inr (cc_next x r hs.1)), sixSplit_ne r hr, h2]
              unfold sixMore
              cases sixLast (y :: ys) with
              | none => rfl
              | some qs =>
                simp only [Option.map_some, List.length_append, List.length_cons, List.length_nil, List.append_assoc, List.cons_append, List.nil_append]
                have e : ps.length + (0 + 1) + qs.length = ps.length + (qs.length + 1) := by omega
                rw [e]
theorem rest_cut (b : Bs) : ∀ (n : Nat) (a : Bs) (ps : List Int), a.length + b.length + 2 < n → ps.length ≤ 8 → a ≠ [] → a.head? ≠ some 58 → hasCC (a ++ [58]) = false →
    sixRest n (a ++ 58 :: 58 :: b) ps none = match sixPieces (splitOn 58 a) with
      | some fs => if ps.length + fs.length < 8 then sixMore (ps ++ fs ++ [0]) (some (ps.length + fs.length + 1)) (sixLast (sixSplit b)) else none
      | none => none
  | 0, a, ps, hn, _, _, _, _ => by omega
  | n + 1, a, ps, hn, h8, hne, hh, hcc => by
    obtain ⟨x, xs, hx⟩ : ∃ x xs, splitOn 58 a = x :: xs := by
      cases hx : splitOn 58 a with
      | nil => exact absurd hx (splitOn_ne 58 _)
      | cons x xs => exact ⟨x, xs, rfl⟩
    obtain ⟨c, a', rfl⟩ : ∃ c a', a = c :: a' := by
      cases a with
      | nil => exact absurd rfl hne
      | cons c a' => exact ⟨c, a', rfl⟩
    have hxe : x ≠ [] := by
      rintro rfl
      rcases split_piece 58 _ _ _ hx with ⟨_, h, _⟩ | ⟨r, h, _, _⟩
      · cases h
      · injection h with h _
        subst h
        exact hh rfl
    rw [hx, sixPieces_cons]
    by_cases he : ps.length = 8
    · have hl : sixRest (n + 1) (c :: a' ++ 58 :: 58 :: b) ps none = none := by rw [List.cons_append, sixRest, if_pos he]
      rw [hl]
      cases sixPiece x with
      | none => rfl
      | some v =>
        cases sixPieces xs with
        | none => rfl
        | some fs => simp only [Option.map_some]; rw [if_neg (by simp; omega)]
    · rcases split_piece 58 _ _ _ hx with ⟨rfl, hax, hno⟩ | ⟨r, hax, h2, hno⟩
      ·
        have hsp : splitOn 58 (c :: a' ++ 58 :: 58 :: b) = x :: splitOn 58 (58 :: b) := by rw [hax]; exact splitOn_hit 58 _ x hno
        have hsn : splitOn 58 (58 :: b) ≠ [] := splitOn_ne 58 _
        rw [rest_piece n _ x _ (58 :: b) hsp (Or.inr ⟨by rw [hax], rfl⟩) hxe ps (by omega) none, if_neg (fun h => hsn h.1)]
        cases sixPiece x with
        | none => rfl
        | some v =>
          simp only [sixNext]
          rw [if_neg hsn, if_neg (by simp)]
          match n, hn with
          | 0, hn => omega
          | n + 1, hn =>
            show sixRest (n + 1) (58 :: b) (ps ++ [v]) none = _
            rw [sixRest]
            have e0 : sixPieces [] = some [] := rfl
            simp only [e0, Option.map_some, List.length_append, List.length_cons, List.length_nil]
            by_cases h7 : ps.length + (0 + 1) = 8
            · rw [if_pos h7, if_neg (by omega)]
            · rw [if_neg h7, if_pos trivial, if_neg (by simp), if_pos (by omega)]
              rw [rest_last n b _ _ (by simp at hn; omega) (by simp; omega) (Or.inl rfl)]
      · have hsp : splitOn 58 (c :: a' ++ 58 :: 58 :: b) = x :: splitOn 58 (r ++ 58 :: 58 :: b) := by
          rw [hax, List.append_assoc]
          exact splitOn_hit 58 _ x hno
        have hsn : splitOn 58 (r ++ 58 :: 58 :: b) ≠ [] := splitOn_ne 58 _
        rw [rest_piece n _ x _ (r ++ 58 :: 58 :: b) hsp (Or.inr ⟨by rw [hax]; simp, rfl⟩) hxe ps (by omega) none, if_neg (fun h => hsn h.1)]
        have hcc2 := hcc
        rw [hax, List.append_assoc] at hcc2
        have hnx : hasCC (r ++ [58]) = false ∧ (r ++ [58]).head? ≠ some 58 := cc_next x (r ++ [58]) hcc2
        have hr0 : r ≠ [] := by
          rintro rfl
          exact hnx.2 rfl
        have hrh : r.head? ≠ some 58 := by
          cases r with
          | nil => exact absurd rfl hr0
          | cons d y => exact hnx.2
        cases sixPiece x with
        | none => rfl
        | some v =>
          simp only [sixNext]
          rw [if_neg hsn, if_neg (by simp)]
          have hlen : r.length + b.length + 2 < n := by
            have := congrArg List.length hax
            simp at this hn
            omega
          rw [rest_cut b n r (ps ++ [v]) hlen (by simp; omega) hr0 hrh hnx.1, h2]
          cases sixPieces xs with
          | none => rfl
          | some fs =>
            simp only [Option.map_some, List.length_append, List.length_cons, List.length_nil, List.append_assoc, List.cons_append, List.nil_append]
            have e : ps.length + (0 + 1) + fs.length = ps.length + (fs.length + 1) := by omega
            rw [e]
theorem fill_end (f g : List Int) (h : f.length + 1 + g.length ≤ 8) : sixEnd (some (f ++ [0] ++ g, some (f.length + 1))) = sixFill true (some f) (some g) := by
  unfold sixEnd sixFill
  have hd : decide ((f.length : Int) + (g.length : Int) < 8) = true := decide_eq_true (by omega)
  simp only [hd, if_true]
  have e1 : (f ++ [0] ++ g).take (f.length + 1) = f ++ [0] := by
    rw [show f.length + 1 = (f ++ [(0 : Int)]).length from by simp, List.take_left]
  have e2 : (f ++ [0] ++ g).drop (f.length + 1) = g := by
    rw [show f.length + 1 = (f ++ [(0 : Int)]).length from by simp, List.drop_left]
  have e3 : (f ++ [0] ++ g).length = f.length + 1 + g.length := by simp; omega
  rw [e1, e2, e3]
  obtain ⟨k, hk⟩ : ∃ k, 8 - f.length - g.length = k + 1 := ⟨8 - f.length - g.length - 1, by omega⟩
  have hk2 : 8 - (f.length + 1 + g.length) = k := by omega
  rw [hk, hk2, List.replicate_succ]
  simp
theorem fill_none (f g : List Int) (h : ¬ f.length + 1 + g.length ≤ 8) : sixFill true (some f) (some g) = none := by
  unfold sixFill
  have hd : decide ((f.length : Int) + (g.length : Int) < 8) = false := decide_eq_false (by omega)
  simp [hd]
theorem scan_six (l : Bs) : sixScan l = sixOf l := by
  unfold sixScan
  split
  · rename_i r
    have hcut : Lib.cut (58 :: 58 :: r) [58, 58] = ([], r, true) := cut_hit [] r (by decide)
    rw [rest_last _ r [0] (some 1) (by simp; omega) (by simp) (Or.inl rfl)]
    unfold sixOf
    rw [hcut]
    simp only
    have e0 : sixPieces (sixSplit []) = some [] := rfl
    rw [e0]
    cases hq : sixLast (sixSplit r) with
    | none => rfl
    | some qs =>
      unfold sixMore
      by_cases h8 : 1 + qs.length ≤ 8
      · simp only [List.length_cons, List.length_nil]
        rw [if_pos (by omega)]
        exact fill_end [] qs (by simp; omega)
      · simp only [List.length_cons, List.length_nil]
        rw [if_neg (by omega)]
        exact (fill_none [] qs (by simp; omega)).symm
  · rename_i r hno
    have hno : r.head? ≠ some 58 := by
      cases r with
      | nil => simp
      | cons d y =>
        intro h
        simp at h
        subst h
        exact hno y rfl
    show none = sixOf (58 :: r)
    have hfirst : ∀ q : Bs, ∃ y ys, splitOn 58 (58 :: q) = [] :: y :: ys := by
      intro q
      cases hq : splitOn 58 q with
      | nil => exact absurd hq (splitOn_ne 58 q)
      | cons y ys => exact ⟨y, ys, by rw [splitOn, if_pos rfl, hq]⟩
    unfold sixOf
    by_cases hc : hasCC (58 :: r) = false
    · rw [cut_none _ hc]
      simp only
      obtain ⟨y, ys, h⟩ := hfirst r
      rw [sixSplit_ne (58 :: r) (by simp), h, sixLast_cons, piece_nil]
      rfl
    · obtain ⟨p, q, hl, hcc⟩ := cc_first _ (by simpa using hc)
      rw [hl, cut_hit p q hcc]
      simp only
      cases p with
      | nil =>
        injection hl with _ hl
        rw [hl] at hno
        exact absurd rfl hno
      | cons d p =>
        injection hl with hd _
        rw [← hd]
        obtain ⟨y, ys, h⟩ := hfirst p
        rw [sixSplit_ne (58 :: p) (by simp), h, sixPieces_cons, piece_nil]
        rfl
  · rename_i h1 h2
    have hh : l.head? ≠ some 58 := by
      cases l with
      | nil => simp
      | cons d y =>
        intro h
        simp at h
        subst h
        exact h2 y rfl
    unfold sixOf
    by_cases hc : hasCC l = false
    · rw [cut_none _ hc, rest_last _ l [] none (by omega) (by simp) (Or.inr ⟨hc, hh⟩)]
      simp only
      have e0 : sixPieces (sixSplit []) = some [] := rfl
      rw [e0]
      cases sixLast (sixSplit l) with
      | none => rfl
      | some qs =>
        unfold sixMore sixFill
        simp only [List.length_nil, Nat.zero_add, List.nil_append, Bool.false_eq_true, if_false]
        by_cases h8 : qs.length = 8
        · rw [if_pos (by omega), if_pos (by simp [h8])]
          unfold sixEnd
          simp [h8]
        · rw [if_neg (show ¬ ((((0 : Nat) : Int) + (qs.length : Int) == 8) = true) from by simp; omega)]
          split
          · unfold sixEnd
            simp [h8]
          · rfl
    · obtain ⟨p, q, rfl, hcc⟩ := cc_first _ (by simpa using hc)
      have hp0 : p ≠ [] := by
        rintro rfl
        exact hh rfl
      have hph : p.head? ≠ some 58 := by
        cases p with
        | nil => exact absurd rfl hp0
        | cons d y => exact hh
      rw [cut_hit p q hcc, rest_cut q _ p [] (by simp; omega) (by simp) hp0 hph hcc]
      simp only
      rw [sixSplit_ne p hp0]
      cases sixPieces (splitOn 58 p) with
      | none => rfl
      | some fs =>
        simp only [List.length_nil, Nat.zero_add, List.nil_append]
        by_cases hf : fs.length < 8
        · rw [if_pos hf]
          cases sixLast (sixSplit q) with
          | none => rfl
          | some qs =>
            unfold sixMore
            simp only [List.length_append, List.length_cons, List.length_nil]
            by_cases h8 : fs.length + 1 + qs.length ≤ 8
            · rw [if_pos (by omega)]
              exact fill_end fs qs h8
            · rw [if_neg (by omega)]
              exact (fill_none fs qs h8).symm
        · rw [if_neg hf]
          cases sixLast (sixSplit q) with
          | none => rfl
          | some qs => exact (fill_none fs qs (by omega)).symm
end Go.Moor
