/- Layer 14 in plain words: the small letter, a text folded; folded again it is itself; texts one behind the other. -/
import Derived.Test.YtaeaomlhbdbbfaaGreatDoorRtM
namespace Go.Proofs.YtaeaomlhbdbbfaaGreatDoor
open Go.RowKit

def smallI (c : Int) : Int :=
  if (65 ≤ c ∧ c ≤ 90) ∨ ((192 ≤ c ∧ c ≤ 222) ∧ c ≠ 215) ∨ ((913 ≤ c ∧ c ≤ 937) ∧ c ≠ 930) ∨ (1040 ≤ c ∧ c ≤ 1071) then c + 32
  else if 1024 ≤ c ∧ c ≤ 1039 then c + 80 else c
def smallN (c : Nat) : Nat :=
  if (65 ≤ c ∧ c ≤ 90) ∨ ((192 ≤ c ∧ c ≤ 222) ∧ c ≠ 215) ∨ ((913 ≤ c ∧ c ≤ 937) ∧ c ≠ 930) ∨ (1040 ≤ c ∧ c ≤ 1071) then c + 32
  else if 1024 ≤ c ∧ c ≤ 1039 then c + 80 else c
theorem small_nat (c : Nat) : smallI (c : Int) = (smallN c : Int) := by
  unfold smallI smallN
  by_cases h : (65 ≤ c ∧ c ≤ 90) ∨ ((192 ≤ c ∧ c ≤ 222) ∧ c ≠ 215) ∨ ((913 ≤ c ∧ c ≤ 937) ∧ c ≠ 930) ∨ (1040 ≤ c ∧ c ≤ 1071)
  · rw [if_pos h, if_pos (by omega)]
    rfl
  · rw [if_neg h, if_neg (by omega)]
    by_cases h2 : 1024 ≤ c ∧ c ≤ 1039
    · rw [if_pos h2, if_pos (by omega)]
      rfl
    · rw [if_neg h2, if_neg (by omega)]
/-- Where the small letter is another one: both are of one length. -/
theorem small_cases (c : Nat) : smallN c = c ∨ (c < 128 ∧ smallN c < 128) ∨ (128 ≤ c ∧ c < 2048 ∧ 128 ≤ smallN c ∧ smallN c < 2048) := by
  unfold smallN
  split
  · omega
  · split <;> omega
theorem small_small (c : Nat) : smallN (smallN c) = smallN c := by
  unfold smallN
  by_cases h : (65 ≤ c ∧ c ≤ 90) ∨ ((192 ≤ c ∧ c ≤ 222) ∧ c ≠ 215) ∨ ((913 ≤ c ∧ c ≤ 937) ∧ c ≠ 930) ∨ (1040 ≤ c ∧ c ≤ 1071)
  · rw [if_pos h, if_neg (by omega), if_neg (by omega)]
  · rw [if_neg h]
    by_cases h2 : 1024 ≤ c ∧ c ≤ 1039
    · rw [if_pos h2, if_neg (by omega), if_neg (by omega)]
    · rw [if_neg h2, if_neg h, if_neg h2]

/-- Bytes that continue a code point. -/
def contL : List UInt8 → Nat → Nat → Option Nat
  | _, 0, code => some code
  | [], _ + 1, _ => none
  | x :: m, k + 1, code => if x.toNat < 128 ∨ 192 ≤ x.toNat then none else contL m k (64 * code + x.toNat - 128)
/-- The code point at a text's beginning. -/
def decF : List UInt8 → Nat × Nat
  | [] => (0, 0)
  | b :: m => if (longF b.toNat).1 = 0 then (0, 0) else endF (longF b.toNat).1 (contL m ((longF b.toNat).1 - 1) (longF b.toNat).2)
theorem dec_cons (b : UInt8) (m : List UInt8) : decF (b :: m) = if (longF b.toNat).1 = 0 then (0, 0) else endF (longF b.toNat).1 (contL m ((longF b.toNat).1 - 1) (longF b.toNat).2) := rfl
theorem cont_short : ∀ (m : List UInt8) (k code : Nat), m.length < k → contL m k code = none
  | _, 0, _, h => by omega
  | [], _ + 1, _, _ => rfl
  | x :: m, k + 1, code, h => by
    unfold contL
    rw [cont_short m k _ (by rw [List.length_cons] at h; omega)]
    split <;> rfl
theorem contF_L (l : List UInt8) (a : Nat) : ∀ (k j code : Nat), a + j + k ≤ l.length → contF l a k j code = contL (l.drop (a + j)) k code
  | 0, j, code, _ => by
    unfold contF
    cases l.drop (a + j) <;> rfl
  | k + 1, j, code, h => by
    have e : l.drop (a + j) = l.getD (a + j) 0 :: l.drop (a + (j + 1)) := by
      rw [List.drop_eq_getElem_cons (by omega), List.getD_eq_getElem?_getD, List.getElem?_eq_getElem (by omega)]
      rfl
    rw [e]
    unfold contF contL
    rw [contF_L l a k (j + 1) _ (by omega)]
theorem next_dec (l : List UInt8) (a : Nat) (h : a < l.length) : nextF l a = decF (l.drop a) := by
  have e : l.drop a = l.getD a 0 :: l.drop (a + 1) := by
    rw [List.drop_eq_getElem_cons h, List.getD_eq_getElem?_getD, List.getElem?_eq_getElem h]
    rfl
  rw [e, dec_cons]
  unfold nextF
  by_cases h0 : (longF (l.getD a 0).toNat).1 = 0
  · rw [if_pos (.inl h0), if_pos h0]
  · rw [if_neg h0]
    by_cases h1 : l.length < a + (longF (l.getD a 0).toNat).1
    · rw [if_pos (.inr h1), cont_short _ _ _ (by rw [List.length_drop]; omega)]
      rfl
    · rw [if_neg (fun g => g.elim h0 h1), contF_L l a _ 1 _ (by omega)]

/-- Does a byte continue a code point? -/
def isC (b : UInt8) : Prop := 128 ≤ b.toNat ∧ b.toNat < 192
instance (b : UInt8) : Decidable (isC b) := inferInstanceAs (Decidable (_ ∧ _))
def NoC : List UInt8 → Prop
  | [] => True
  | b :: _ => ¬ isC b
/-- Two texts begin with the same bytes that continue. -/
inductive Ag : List UInt8 → List UInt8 → Prop
  | stop {m m2 : List UInt8} : NoC m → NoC m2 → Ag m m2
  | cont {c : UInt8} {m m2 : List UInt8} : isC c → Ag m m2 → Ag (c :: m) (c :: m2)
theorem cont_no : ∀ (m : List UInt8) (k code : Nat), NoC m → contL m (k + 1) code = none
  | [], _, _, _ => rfl
  | b :: m, k, code, h => by
    unfold contL
    rw [if_pos]
    have h2 : ¬ (128 ≤ b.toNat ∧ b.toNat < 192) := h
    omega
theorem cont_ag {m m2 : List UInt8} (h : Ag m m2) : ∀ k code, contL m k code = contL m2 k code := by
  induction h with
  | stop h1 h2 =>
    intro k code
    cases k with
    | zero => simp [contL]
    | succ k => rw [cont_no _ k code h1, cont_no _ k code h2]
  | cont hc _ ih =>
    intro k code
    cases k with
    | zero => rfl
    | succ k =>
      unfold contL
      rw [ih]
theorem dec_ag (b : UInt8) {m m2 : List UInt8} (h : Ag m m2) : decF (b :: m) = decF (b :: m2) := by
  rw [dec_cons, dec_cons, cont_ag h]
theorem dec_c {b : UInt8} (m : List UInt8) (h : isC b) : decF (b :: m) = (0, 0) := by
  have h2 : 128 ≤ b.toNat ∧ b.toNat < 192 := h
  rw [dec_cons, if_pos]
  unfold longF
  rw [if_neg (by omega), if_neg (by omega), if_neg (by omega), if_neg (by omega)]
theorem cont_take (X : List UInt8) : ∀ (m : List UInt8) (k code c : Nat), contL m k code = some c → contL (m.take k ++ X) k code = some c
  | m, 0, code, c, h => by
    rw [List.take_zero, List.nil_append]
    unfold contL at h ⊢
    exact h
  | [], k + 1, code, c, h => by cases h
  | x :: m, k + 1, code, c, h => by
    rw [List.take_succ_cons, List.cons_append]
    unfold contL at h ⊢
    by_cases g : x.toNat < 128 ∨ 192 ≤ x.toNat
    · rw [if_pos g] at h
      cases h
    · rw [if_neg g] at h ⊢
      exact cont_take X m k _ c h
theorem endF_cases (n : Nat) (o : Option Nat) : endF n o = (0, 0) ∨ ∃ c, o = some c ∧ endF n o = (c, n) ∧ leastC n ≤ c ∧ c ≤ 1114111 := by
  cases o with
  | none => exact .inl rfl
  | some c =>
    unfold endF
    by_cases h : c < leastC n ∨ 1114111 < c ∨ (55296 ≤ c ∧ c < 57344)
    · exact .inl (if_pos h)
    · exact .inr ⟨c, rfl, if_neg h, by omega, by omega⟩
/-- What a code point at the beginning is: by its length. -/
theorem dec_pos (m : List UInt8) (h : 0 < (decF m).2) : ∃ b r, m = b :: r ∧ ¬ isC b ∧ (decF m).2 = (longF b.toNat).1 ∧ (decF m).2 ≤ m.length ∧ (decF m).2 ≤ 4 ∧ leastC (decF m).2 ≤ (decF m).1 ∧ (decF m).1 ≤ 1114111 ∧
    contL r ((longF b.toNat).1 - 1) (longF b.toNat).2 = some (decF m).1 ∧ ((decF m).2 = 1 → (decF m).1 < 128) ∧ ((decF m).2 = 2 → (decF m).1 < 2048) := by
  cases m with
  | nil => exact absurd h (Nat.lt_irrefl 0)
  | cons b r =>
    refine ⟨b, r, rfl, fun hc => by rw [dec_c r hc] at h; exact absurd h (Nat.lt_irrefl 0), ?_⟩
    have e : decF (b :: r) = if (longF b.toNat).1 = 0 then (0, 0) else endF (longF b.toNat).1 (contL r ((longF b.toNat).1 - 1) (longF b.toNat).2) := rfl
    by_cases h0 : (longF b.toNat).1 = 0
    · rw [e, if_pos h0] at h
      exact absurd h (Nat.lt_irrefl 0)
    · rw [if_neg h0] at e
      have hl := longF_le b.toNat
      rcases endF_cases (longF b.toNat).1 (contL r ((longF b.toNat).1 - 1) (longF b.toNat).2) with g | ⟨c, g1, g2, g3, g4⟩
      · rw [e, g] at h
        exact absurd h (Nat.lt_irrefl 0)
      · rw [g2] at e
        rw [e]
        refine ⟨rfl, ?_, hl.1, g3, g4, g1, fun k => ?_, fun k => ?_⟩
        · rcases Nat.lt_or_ge r.length ((longF b.toNat).1 - 1) with q | q
          · rw [cont_short _ _ _ q] at g1
            cases g1
          · show (longF b.toNat).1 ≤ r.length + 1
            omega
        · have k2 : (longF b.toNat).1 = 1 := k
          rw [k2] at g1
          have : (longF b.toNat).2 = c := by simpa [contL] using g1
          show c < 128
          omega
        · have k2 : (longF b.toNat).1 = 2 := k
          rw [k2] at g1
          have hlow : (longF b.toNat).2 < 32 := by
            unfold longF at k2 ⊢
            by_cases q1 : b.toNat < 128
            · rw [if_pos q1] at k2
              cases k2
            rw [if_neg q1] at k2 ⊢
            by_cases q2 : 192 ≤ b.toNat ∧ b.toNat < 224
            · rw [if_pos q2]
              show b.toNat - 192 < 32
              omega
            rw [if_neg q2] at k2
            by_cases q3 : 224 ≤ b.toNat ∧ b.toNat < 240
            · rw [if_pos q3] at k2
              cases k2
            rw [if_neg q3] at k2
            by_cases q4 : 240 ≤ b.toNat ∧ b.toNat < 248
            · rw [if_pos q4] at k2
              cases k2
            rw [if_neg q4] at k2
            cases k2
          cases r with
          | nil => cases g1
          | cons x r =>
            have hc2 : contL (x :: r) 1 (longF b.toNat).2 = if x.toNat < 128 ∨ 192 ≤ x.toNat then none else contL r 0 (64 * (longF b.toNat).2 + x.toNat - 128) := rfl
            rw [show 2 - 1 = 1 from rfl, hc2] at g1
            by_cases q : x.toNat < 128 ∨ 192 ≤ x.toNat
            · rw [if_pos q] at g1
              cases g1
            · rw [if_neg q] at g1
              have : 64 * (longF b.toNat).2 + x.toNat - 128 = c := by simpa [contL] using g1
              show c < 2048
              omega
theorem dec_take (m X : List UInt8) (h : 0 < (decF m).2) : decF (m.take (decF m).2 ++ X) = decF m := by
  obtain ⟨b, r, rfl, _, e1, _, _, _, _, e2, _⟩ := dec_pos m h
  have hn : (longF b.toNat).1 ≠ 0 := by omega
  obtain ⟨k, hk⟩ : ∃ k, (longF b.toNat).1 = k + 1 := ⟨(longF b.toNat).1 - 1, by omega⟩
  rw [e1, hk, List.take_succ_cons, List.cons_append]
  rw [hk, Nat.add_sub_cancel] at e2
  rw [dec_cons, dec_cons, hk, if_neg (by omega), if_neg (by omega), Nat.add_sub_cancel, cont_take X r k _ _ e2, e2]

/-- A small letter's bytes. -/
def utf8F (c : Nat) : List UInt8 := if c < 128 then [UInt8.ofNat c] else [UInt8.ofNat (192 + c / 64), UInt8.ofNat (128 + c % 64)]
theorem utf8_dec (c : Nat) (h : c < 2048) (X : List UInt8) : decF (utf8F c ++ X) = (c, if c < 128 then 1 else 2) ∧ (utf8F c).length = if c < 128 then 1 else 2 := by
  unfold utf8F
  by_cases h1 : c < 128
  · rw [if_pos h1, if_pos h1]
    refine ⟨?_, rfl⟩
    have e : (UInt8.ofNat c).toNat = c := UInt8.toNat_ofNat_of_lt' (by show c < 256; omega)
    show decF (UInt8.ofNat c :: X) = (c, 1)
    rw [dec_cons, e]
    have el : longF c = (1, c) := if_pos h1
    rw [el, if_neg (by simp)]
    show endF 1 (contL X 0 c) = (c, 1)
    rw [show contL X 0 c = some c by simp [contL]]
    exact if_neg (show ¬ (c < 0 ∨ 1114111 < c ∨ (55296 ≤ c ∧ c < 57344)) by omega)
  · rw [if_neg h1, if_neg h1]
    refine ⟨?_, rfl⟩
    have e : (UInt8.ofNat (192 + c / 64)).toNat = 192 + c / 64 := UInt8.toNat_ofNat_of_lt' (by show 192 + c / 64 < 256; omega)
    have e2 : (UInt8.ofNat (128 + c % 64)).toNat = 128 + c % 64 := UInt8.toNat_ofNat_of_lt' (by show 128 + c % 64 < 256; omega)
    show decF (UInt8.ofNat (192 + c / 64) :: UInt8.ofNat (128 + c % 64) :: X) = (c, 2)
    rw [dec_cons, e]
    have el : longF (192 + c / 64) = (2, c / 64) := by
      unfold longF
      rw [if_neg (by omega), if_pos (by omega), Nat.add_sub_cancel_left]
    rw [el, if_neg (by simp)]
    show endF 2 (contL (UInt8.ofNat (128 + c % 64) :: X) 1 (c / 64)) = (c, 2)
    have ec : contL (UInt8.ofNat (128 + c % 64) :: X) 1 (c / 64) = some c := by
      unfold contL
      rw [e2, if_neg (by omega), show 64 * (c / 64) + (128 + c % 64) - 128 = c by omega]
      simp [contL]
    rw [ec]
    exact if_neg (show ¬ (c < 128 ∨ 1114111 < c ∨ (55296 ≤ c ∧ c < 57344)) by omega)

/-- What stands for the code point at the beginning. -/
def chunkF (m : List UInt8) : List UInt8 := if smallN (decF m).1 = (decF m).1 then m.take (decF m).2 else utf8F (smallN (decF m).1)
/-- A text, folded (so many steps). -/
def foldG : Nat → List UInt8 → List UInt8
  | 0, _ => []
  | _ + 1, [] => []
  | f + 1, b :: m => if (decF (b :: m)).2 = 0 then b :: foldG f m else chunkF (b :: m) ++ foldG f ((b :: m).drop (decF (b :: m)).2)
def foldF (l : List UInt8) : List UInt8 := foldG l.length l
theorem foldG_nil (f : Nat) : foldG f [] = [] := by cases f <;> rfl
theorem foldG_fuel : ∀ (f g : Nat) (m : List UInt8), m.length ≤ f → m.length ≤ g → foldG f m = foldG g m
  | f, g, [], _, _ => by rw [foldG_nil, foldG_nil]
  | 0, _, b :: m, h, _ => absurd h (by simp)
  | _ + 1, 0, b :: m, _, h => absurd h (by simp)
  | f + 1, g + 1, b :: m, h1, h2 => by
    rw [List.length_cons] at h1 h2
    unfold foldG
    by_cases h0 : (decF (b :: m)).2 = 0
    · rw [if_pos h0, if_pos h0, foldG_fuel f g m (by omega) (by omega)]
    · rw [if_neg h0, if_neg h0, foldG_fuel f g _ (by rw [List.length_drop, List.length_cons]; omega) (by rw [List.length_drop, List.length_cons]; omega)]
theorem fold_nil : foldF [] = [] := rfl
theorem fold_cons (b : UInt8) (m : List UInt8) : foldF (b :: m) = if (decF (b :: m)).2 = 0 then b :: foldF m else chunkF (b :: m) ++ foldF ((b :: m).drop (decF (b :: m)).2) := by
  unfold foldF
  rw [List.length_cons]
  conv => lhs; unfold foldG
  by_cases h0 : (decF (b :: m)).2 = 0
  · rw [if_pos h0, if_pos h0]
  · rw [if_neg h0, if_neg h0, foldG_fuel m.length _ _ (by rw [List.length_drop, List.length_cons]; omega) (Nat.le_refl _)]
/-- What stands for it has its length, and is read as its small letter. -/
theorem chunk_dec (m X : List UInt8) (h : 0 < (decF m).2) : (chunkF m).length = (decF m).2 ∧ decF (chunkF m ++ X) = (smallN (decF m).1, (decF m).2) := by
  obtain ⟨b, r, hm, _, e1, e2, e4, e5, e6, _, e7, e8⟩ := dec_pos m h
  unfold chunkF
  by_cases hs : smallN (decF m).1 = (decF m).1
  · rw [if_pos hs, dec_take m X h, hs, List.length_take]
    exact ⟨by omega, rfl⟩
  · rw [if_neg hs]
    have hl : (decF m).2 = if smallN (decF m).1 < 128 then 1 else 2 := by
      have hn : (decF m).2 = 1 ∨ (decF m).2 = 2 ∨ (decF m).2 = 3 ∨ (decF m).2 = 4 := by omega
      rcases small_cases (decF m).1 with g | ⟨g1, g2⟩ | ⟨g1, g2, g3, g4⟩
      · exact (hs g).elim
      · rw [if_pos g2]
        rcases hn with q | q | q | q
        · exact q
        · rw [q] at e5
          have : 128 ≤ (decF m).1 := e5
          omega
        · rw [q] at e5
          have : 2048 ≤ (decF m).1 := e5
          omega
        · rw [q] at e5
          have : 65536 ≤ (decF m).1 := e5
          omega
      · rw [if_neg (by omega)]
        rcases hn with q | q | q | q
        · have := e7 q
          omega
        · exact q
        · rw [q] at e5
          have : 2048 ≤ (decF m).1 := e5
          omega
        · rw [q] at e5
          have : 65536 ≤ (decF m).1 := e5
          omega
    have hb : smallN (decF m).1 < 2048 := by
      rcases small_cases (decF m).1 with g | ⟨g1, g2⟩ | ⟨g1, g2, g3, g4⟩
      · exact (hs g).elim
      · omega
      · omega
    obtain ⟨u1, u2⟩ := utf8_dec (smallN (decF m).1) hb X
    rw [u1, u2, hl]
    exact ⟨rfl, rfl⟩
theorem chunk_noC (m X : List UInt8) (h : 0 < (decF m).2) : NoC (chunkF m ++ X) := by
  have e := (chunk_dec m X h).2
  cases hc : chunkF m ++ X with
  | nil => trivial
  | cons b r =>
    intro hb
    rw [hc, dec_c r hb] at e
    have : 0 = (decF m).2 := congrArg Prod.snd e
    omega
theorem fold_ag (n : Nat) : ∀ m : List UInt8, m.length ≤ n → Ag m (foldF m) := by
  induction n with
  | zero =>
    intro m h
    obtain rfl : m = [] := List.length_eq_zero_iff.1 (by omega)
    exact .stop trivial trivial
  | succ n ih =>
    intro m h
    cases m with
    | nil => exact .stop trivial trivial
    | cons b m =>
      rw [fold_cons]
      by_cases h0 : (decF (b :: m)).2 = 0
      · rw [if_pos h0]
        by_cases hc : isC b
        · exact .cont hc (ih m (by rw [List.length_cons] at h; omega))
        · exact .stop hc hc
      · rw [if_neg h0]
        have hp : 0 < (decF (b :: m)).2 := by omega
        refine .stop ?_ (chunk_noC _ _ hp)
        intro hc
        rw [dec_c m hc] at h0
        exact h0 rfl
theorem fold_len (n : Nat) : ∀ m : List UInt8, m.length ≤ n → (foldF m).length = m.length := by
  induction n with
  | zero =>
    intro m h
    obtain rfl : m = [] := List.length_eq_zero_iff.1 (by omega)
    rfl
  | succ n ih =>
    intro m h
    cases m with
    | nil => rfl
    | cons b m =>
      rw [List.length_cons] at h
      rw [fold_cons]
      by_cases h0 : (decF (b :: m)).2 = 0
      · rw [if_pos h0, List.length_cons, List.length_cons, ih m (by omega)]
      · have hp : 0 < (decF (b :: m)).2 := by omega
        obtain ⟨_, _, _, _, _, e2, _⟩ := dec_pos (b :: m) hp
        rw [if_neg h0, List.length_append, (chunk_dec (b :: m) [] hp).1, ih _ (by rw [List.length_drop, List.length_cons]; omega), List.length_drop]
        omega
theorem fold_length (m : List UInt8) : (foldF m).length = m.length := fold_len m.length m (Nat.le_refl _)
/-- What stands ahead of it is folded by itself. -/
theorem fold_chunk (m X : List UInt8) (h : 0 < (decF m).2) : foldF (chunkF m ++ X) = chunkF m ++ foldF X := by
  obtain ⟨c1, c2⟩ := chunk_dec m X h
  cases hc : chunkF m ++ X with
  | nil =>
    have := congrArg List.length hc
    rw [List.length_append, c1, List.length_nil] at this
    omega
  | cons b r =>
    rw [fold_cons, ← hc, if_neg (by rw [c2]; show ¬ (decF m).2 = 0; omega)]
    have e1 : chunkF (chunkF m ++ X) = chunkF m := by
      have hq : ∀ q, chunkF q = if smallN (decF q).1 = (decF q).1 then q.take (decF q).2 else utf8F (smallN (decF q).1) := fun _ => rfl
      rw [hq (chunkF m ++ X), c2, if_pos (small_small _)]
      show (chunkF m ++ X).take (decF m).2 = _
      rw [← c1, List.take_left]
    have e2 : (chunkF m ++ X).drop (decF (chunkF m ++ X)).2 = X := by
      rw [c2]
      show (chunkF m ++ X).drop (decF m).2 = X
      rw [← c1, List.drop_left]
    rw [e1, e2]
theorem fold_twice (n : Nat) : ∀ m : List UInt8, m.length ≤ n → foldF (foldF m) = foldF m := by
  induction n with
  | zero =>
    intro m h
    obtain rfl : m = [] := List.length_eq_zero_iff.1 (by omega)
    rfl
  | succ n ih =>
    intro m h
    cases m with
    | nil => rfl
    | cons b m =>
      rw [List.length_cons] at h
      rw [fold_cons]
      by_cases h0 : (decF (b :: m)).2 = 0
      · rw [if_pos h0, fold_cons, ← dec_ag b (fold_ag m.length m (Nat.le_refl _)), if_pos h0, ih m (by omega)]
      · have hp : 0 < (decF (b :: m)).2 := by omega
        rw [if_neg h0, fold_chunk _ _ hp, ih _ (by rw [List.length_drop, List.length_cons]; omega)]
theorem fold_fold (m : List UInt8) : foldF (foldF m) = foldF m := fold_twice m.length m (Nat.le_refl _)
theorem ag_47 (y : List UInt8) : ∀ r : List UInt8, Ag r (r ++ 47 :: y)
  | [] => .stop trivial (by show ¬ isC 47; decide)
  | b :: r => by
    by_cases h : isC b
    · exact .cont h (ag_47 y r)
    · exact .stop h h
theorem fold_split (y : List UInt8) (n : Nat) : ∀ x : List UInt8, x.length ≤ n → foldF (x ++ 47 :: y) = foldF x ++ 47 :: foldF y := by
  induction n with
  | zero =>
    intro x h
    obtain rfl : x = [] := List.length_eq_zero_iff.1 (by omega)
    have e : decF (47 :: y) = (47, 1) := by
      show endF 1 (contL y 0 47) = (47, 1)
      rw [show contL y 0 47 = some 47 by simp [contL]]
      rfl
    rw [List.nil_append, fold_cons, e, if_neg (by decide)]
    unfold chunkF
    rw [e]
    rfl
  | succ n ih =>
    intro x h
    cases x with
    | nil => exact ih [] (Nat.zero_le _)
    | cons b r =>
      rw [List.length_cons] at h
      have hd : decF (b :: (r ++ 47 :: y)) = decF (b :: r) := (dec_ag b (ag_47 y r)).symm
      rw [List.cons_append, fold_cons, fold_cons, hd]
      by_cases h0 : (decF (b :: r)).2 = 0
      · rw [if_pos h0, if_pos h0, ih r (by omega), List.cons_append]
      · have hp : 0 < (decF (b :: r)).2 := by omega
        obtain ⟨_, _, _, _, _, e2, _⟩ := dec_pos (b :: r) hp
        have ed : (b :: (r ++ 47 :: y)).drop (decF (b :: r)).2 = (b :: r).drop (decF (b :: r)).2 ++ 47 :: y := by
          rw [← List.cons_append, List.drop_append_of_le_length e2]
        have ec : chunkF (b :: (r ++ 47 :: y)) = chunkF (b :: r) := by
          unfold chunkF
          rw [hd, ← List.cons_append, List.take_append_of_le_length e2]
        rw [if_neg h0, if_neg h0, ed, ec, ih _ (by rw [List.length_drop, List.length_cons]; omega), List.append_assoc]
theorem fold_join (x y : List UInt8) : foldF (x ++ 47 :: y) = foldF x ++ 47 :: foldF y := fold_split y x.length x (Nat.le_refl _)
theorem fold_alike (x y : List UInt8) : foldF (x ++ 47 :: y) = foldF (foldF x ++ 47 :: foldF y) := by
  rw [fold_join, fold_join, fold_fold, fold_fold]
/-- One step of the document's, at a place. -/
theorem fold_step (l : List UInt8) (a : Nat) (h : a < l.length) : foldF (l.drop a) = if (nextF l a).2 = 0 then l.getD a 0 :: foldF (l.drop (a + 1)) else (if smallN (nextF l a).1 = (nextF l a).1 then (l.take (a + (nextF l a).2)).drop a else utf8F (smallN (nextF l a).1)) ++ foldF (l.drop (a + (nextF l a).2)) := by
  rw [next_dec l a h]
  have e : l.drop a = l.getD a 0 :: l.drop (a + 1) := by
    rw [List.drop_eq_getElem_cons h, List.getD_eq_getElem?_getD, List.getElem?_eq_getElem h]
    rfl
  conv => lhs; rw [e, fold_cons, ← e]
  by_cases h0 : (decF (l.drop a)).2 = 0
  · rw [if_pos h0, if_pos h0]
  · rw [if_neg h0, if_neg h0, List.drop_drop]
    unfold chunkF
    rw [List.drop_take, Nat.add_sub_cancel_left]
end Go.Proofs.YtaeaomlhbdbbfaaGreatDoor
