/- Layer 9: matches in plain words; what tokens say; marks, and places kept. -/
import Derived.Test.YtaicihghndoclaaGreatTLaid
import Derived.Test.YtaicihghndoclaaGreatM10
import Derived.Test.YtaicihghndoclaaGreatXA
/- Layer 9 in plain words: matches, the longest9 one, a trail of places, tokens of a text. -/
namespace Go.Proofs.YtaicihghndoclaaGreat

/-- How many bytes from a on are those from f on, m at most. -/
def runN (L : List UInt8) (a f : Nat) : Nat → Nat
  | 0 => 0
  | m + 1 => if runN L a f m = m ∧ L.getD (f + m) 0 = L.getD (a + m) 0 then m + 1 else runN L a f m
theorem runN_le (L : List UInt8) (a f : Nat) : ∀ m, runN L a f m ≤ m
  | 0 => Nat.le_refl _
  | m + 1 => by
    rw [runN]
    split
    · exact Nat.le_refl _
    · have := runN_le L a f m; omega
theorem runN_on {L : List UInt8} {a f m : Nat} (h : runN L a f m = m) (e : L.getD (f + m) 0 = L.getD (a + m) 0) : runN L a f (m + 1) = m + 1 := by
  rw [runN, if_pos ⟨h, e⟩]
theorem runN_stop {L : List UInt8} {a f k : Nat} (h : runN L a f k = k) (e : ¬ L.getD (f + k) 0 = L.getD (a + k) 0) : ∀ m, runN L a f (k + 1 + m) = k
  | 0 => by rw [Nat.add_zero, runN, if_neg (fun x => e x.2), h]
  | m + 1 => by
    have := runN_stop h e m
    rw [show k + 1 + (m + 1) = (k + 1 + m) + 1 from by omega, runN, if_neg (fun x => by omega), this]
theorem runN_same {L : List UInt8} {a f : Nat} : ∀ (m k : Nat), k < runN L a f m → L.getD (f + k) 0 = L.getD (a + k) 0
  | 0, k, h => by simp [runN] at h
  | m + 1, k, h => by
    rw [runN] at h
    split at h
    · rename_i hh
      rcases Nat.lt_or_ge k m with h1 | h1
      · exact runN_same m k (by omega)
      · obtain rfl : k = m := by omega
        exact hh.2
    · exact runN_same m k h
theorem runN_all {L : List UInt8} {a f : Nat} : ∀ m, (∀ k, k < m → L.getD (f + k) 0 = L.getD (a + k) 0) → runN L a f m = m
  | 0, _ => rfl
  | m + 1, h => runN_on (runN_all m fun k hk => h k (by omega)) (h m (by omega))

/-- The match with what stands so far back, if it is longer. -/
def pstep (L : List UInt8) (a most : Nat) (p : Nat × Nat) (d : Nat) : Nat × Nat :=
  if 3 ≤ runN L a (a - d) most ∧ p.1 < runN L a (a - d) most then (runN L a (a - d) most, d) else p
/-- The longest9 of those up to so far back. -/
def bestTo (L : List UInt8) (a most : Nat) : Nat → Nat × Nat
  | 0 => (0, 0)
  | k + 1 => pstep L a most (bestTo L a most k) (k + 1)
def mostAt (L : List UInt8) (a : Nat) : Nat := min 258 (L.length - a)
def best (L : List UInt8) (a : Nat) : Nat × Nat := bestTo L a (mostAt L a) (min a 32768)
theorem pstep_le (L : List UInt8) (a most : Nat) (p : Nat × Nat) (d : Nat) (h : p.1 ≤ most) : (pstep L a most p d).1 ≤ most := by
  unfold pstep
  split
  · exact runN_le ..
  · exact h
theorem pstep_full (L : List UInt8) (a most : Nat) (p : Nat × Nat) (d : Nat) (h : p.1 = most) : pstep L a most p d = p := by
  unfold pstep
  have := runN_le L a (a - d) most
  rw [if_neg (by omega)]
theorem bestTo_le (L : List UInt8) (a most : Nat) : ∀ k, (bestTo L a most k).1 ≤ most
  | 0 => Nat.zero_le _
  | k + 1 => pstep_le _ _ _ _ _ (bestTo_le L a most k)
theorem bestTo_full (L : List UInt8) (a most k : Nat) (h : (bestTo L a most k).1 = most) : ∀ j, bestTo L a most (k + j) = bestTo L a most k
  | 0 => rfl
  | j + 1 => by
    have := bestTo_full L a most k h j
    rw [show k + (j + 1) = (k + j) + 1 from by omega, bestTo, this, pstep_full _ _ _ _ _ h]
theorem bestTo_back (L : List UInt8) (a most : Nat) : ∀ k, (bestTo L a most k).2 ≤ k
  | 0 => Nat.zero_le _
  | k + 1 => by
    have := bestTo_back L a most k
    rw [bestTo]
    unfold pstep
    split
    · exact Nat.le_refl _
    · omega

/-- What a trail keeps: by mark, by place, how many. -/
structure St9 where
  nn : List Nat
  oo : List Nat
  kept : Nat
def keep1 (M : Nat → Nat) (t : St9) : St9 := ⟨t.nn.set (M t.kept) (t.kept + 1), t.oo.set t.kept (t.nn.getD (M t.kept) 0), t.kept + 1⟩
def keepN (M : Nat → Nat) : Nat → St9 → St9
  | 0, t => t
  | n + 1, t => keepN M n (keep1 M t)
def keepTo (M : Nat → Nat) (a : Nat) (t : St9) : St9 := keepN M (a - t.kept) t
def srch (L : List UInt8) (a most : Nat) (oo : List Nat) : Nat → Nat → Nat × Nat → Nat × Nat
  | 0, _, p => p
  | _ + 1, 0, p => p
  | k + 1, f + 1, p => if 32768 < a - f ∨ p.1 = most then p else srch L a most oo k (oo.getD f 0) (pstep L a most p (a - f))
def search (L : List UInt8) (M : Nat → Nat) (tries : Nat) (t : St9) (a : Nat) : (Nat × Nat) × St9 :=
  if a + 3 ≤ L.length then (srch L a (mostAt L a) (keepTo M a t).oo tries ((keepTo M a t).nn.getD (M a) 0) (0, 0), keepTo M a t) else ((0, 0), t)
def patient (L : List UInt8) (M : Nat → Nat) (t : St9) (a : Nat) : (Nat × Nat) × St9 :=
  let x := search L M 128 t a
  if x.1.1 = 0 ∨ 32 ≤ x.1.1 then x else
    let y := search L M 128 x.2 (a + 1)
    if x.1.1 < y.1.1 then ((0, 0), y.2) else (x.1, y.2)
def look (L : List UInt8) (M : Nat → Nat) (lvl : Nat) (t : St9) (a : Nat) : (Nat × Nat) × St9 :=
  if lvl = 0 then ((0, 0), t) else if lvl = 1 then search L M 1 t a else if lvl = 2 then search L M 8 t a else patient L M t a
/-- The tokens from a place on. -/
def toks (L : List UInt8) (M : Nat → Nat) (lvl : Nat) : Nat → St9 → Nat → List Tk
  | 0, _, _ => []
  | k + 1, t, a => if a < L.length then
      (if (look L M lvl t a).1.1 = 0 then ⟨L.getD a 0, 0, 0⟩ :: toks L M lvl k (look L M lvl t a).2 (a + 1)
        else ⟨0, (look L M lvl t a).1.1, (look L M lvl t a).1.2⟩ :: toks L M lvl k (look L M lvl t a).2 (a + (look L M lvl t a).1.1)) else []

/-- A trail's state that may be. -/
structure Good9 (L : List UInt8) (N : Nat) (t : St9) : Prop where
  nl : t.nn.length = N
  ol : t.oo.length = L.length
  nb : ∀ i : Nat, t.nn.getD i 0 ≤ t.kept
  ob : ∀ j : Nat, t.oo.getD j 0 ≤ j
theorem getD_set (l : List Nat) (i j x : Nat) : (l.set i x).getD j 0 = if i = j ∧ j < l.length then x else l.getD j 0 := by
  rw [List.getD_eq_getElem?_getD, List.getD_eq_getElem?_getD, List.getElem?_set]
  by_cases h : i = j
  · by_cases h2 : i < l.length
    · rw [if_pos h, if_pos h2, if_pos ⟨h, by omega⟩]; rfl
    · rw [if_pos h, if_neg h2, if_neg (by omega), List.getElem?_eq_none (by omega)]
  · rw [if_neg h, if_neg (fun x => h x.1)]
theorem Good9.keep1 {L : List UInt8} {N : Nat} {t : St9} (M : Nat → Nat) (h : Good9 L N t) : Good9 L N (keep1 M t) := by
  refine ⟨by simpa [YtaicihghndoclaaGreat.keep1] using h.nl, by simpa [YtaicihghndoclaaGreat.keep1] using h.ol, fun i => ?_, fun j => ?_⟩
  · have := h.nb i
    simp only [YtaicihghndoclaaGreat.keep1]
    rw [getD_set]
    split <;> omega
  · have := h.ob j
    have h2 := h.nb (M t.kept)
    simp only [YtaicihghndoclaaGreat.keep1]
    rw [getD_set]
    split
    · rename_i hh; omega
    · exact this
theorem Good9.keepN {L : List UInt8} {N : Nat} (M : Nat → Nat) : ∀ (n : Nat) (t : St9), Good9 L N t → Good9 L N (keepN M n t)
  | 0, _, h => h
  | n + 1, _, h => Good9.keepN M n _ (h.keep1 M)
theorem keepN_kept (M : Nat → Nat) : ∀ (n : Nat) (t : St9), (keepN M n t).kept = t.kept + n
  | 0, _ => rfl
  | n + 1, t => by rw [keepN, keepN_kept M n]; simp only [keep1]; omega
theorem Good9.keepTo {L : List UInt8} {N : Nat} {t : St9} (M : Nat → Nat) (a : Nat) (h : Good9 L N t) : Good9 L N (keepTo M a t) := h.keepN M _
theorem keepTo_kept (M : Nat → Nat) (a : Nat) (t : St9) (h : t.kept ≤ a) : (keepTo M a t).kept = a := by
  unfold keepTo
  rw [keepN_kept]
  omega

/-- A match, or none. -/
def Valid (L : List UInt8) (a : Nat) (p : Nat × Nat) : Prop :=
  (p.1 = 0 ∧ p.2 = 0) ∨ (3 ≤ p.1 ∧ p.1 ≤ 258 ∧ a + p.1 ≤ L.length ∧ 1 ≤ p.2 ∧ p.2 ≤ 32768 ∧ p.2 ≤ a ∧ ∀ k, k < p.1 → L.getD (a - p.2 + k) 0 = L.getD (a + k) 0)
theorem Valid.step {L : List UInt8} {a : Nat} {p : Nat × Nat} (h : Valid L a p) (ha : a ≤ L.length) (d : Nat) (h1 : 1 ≤ d) (h2 : d ≤ 32768) (h3 : d ≤ a) : Valid L a (pstep L a (mostAt L a) p d) := by
  unfold pstep
  have hm : mostAt L a ≤ 258 ∧ mostAt L a ≤ L.length - a := by unfold mostAt; omega
  have hr := runN_le L a (a - d) (mostAt L a)
  split
  · rename_i hh
    exact .inr ⟨hh.1, by simp only; omega, by simp only; omega, h1, h2, h3, fun k hk => runN_same _ k hk⟩
  · exact h
theorem Valid.srch {L : List UInt8} {a : Nat} (oo : List Nat) (ob : ∀ j : Nat, oo.getD j 0 ≤ j) (ha : a ≤ L.length) : ∀ (k f : Nat) (p : Nat × Nat), f ≤ a → Valid L a p → Valid L a (srch L a (mostAt L a) oo k f p)
  | 0, f, p, _, h => by rw [YtaicihghndoclaaGreat.srch]; exact h
  | k + 1, 0, p, _, h => by rw [YtaicihghndoclaaGreat.srch]; exact h
  | k + 1, f + 1, p, hf, h => by
    rw [YtaicihghndoclaaGreat.srch]
    split
    · exact h
    · rename_i hh
      have := ob f
      exact Valid.srch oo ob ha k _ _ (by omega) (h.step ha _ (by omega) (by omega) (by omega))
theorem Valid.none (L : List UInt8) (a : Nat) : Valid L a (0, 0) := .inl ⟨rfl, rfl⟩
theorem search_valid {L : List UInt8} {N : Nat} {t : St9} (M : Nat → Nat) (tries a : Nat) (h : Good9 L N t) (hk : t.kept ≤ a) : Valid L a (search L M tries t a).1 ∧ Good9 L N (search L M tries t a).2 ∧ (search L M tries t a).2.kept ≤ a := by
  unfold search
  split
  · rename_i ha
    have hg := h.keepTo M a
    have hkk := keepTo_kept M a t hk
    have := hg.nb (M a)
    exact ⟨Valid.srch _ hg.ob (by omega) _ _ _ (by omega) (Valid.none L a), hg, by simp only; omega⟩
  · exact ⟨Valid.none L a, h, hk⟩
theorem Valid.le {L : List UInt8} {a : Nat} {p : Nat × Nat} (h : Valid L a p) : p.1 ≤ L.length - a ∧ p.1 ≤ 258 := by
  rcases h with ⟨h, _⟩ | ⟨_, h1, h2, _⟩ <;> omega
/-- What a level answers: a match, or none; the next place is kept at most where a match has it behind it. -/
theorem look_valid {L : List UInt8} {N : Nat} {t : St9} (M : Nat → Nat) (lvl a : Nat) (h : Good9 L N t) (hk : t.kept ≤ a) :
    Valid L a (look L M lvl t a).1 ∧ Good9 L N (look L M lvl t a).2 ∧ (look L M lvl t a).2.kept ≤ a + 1 := by
  unfold look
  split
  · exact ⟨Valid.none L a, h, by simp only; omega⟩
  · split
    · obtain ⟨h1, h2, h3⟩ := search_valid M 1 a h hk
      exact ⟨h1, h2, by omega⟩
    · split
      · obtain ⟨h1, h2, h3⟩ := search_valid M 8 a h hk
        exact ⟨h1, h2, by omega⟩
      · obtain ⟨h1, h2, h3⟩ := search_valid M 128 a h hk
        obtain ⟨h4, h5, h6⟩ := search_valid M 128 (a + 1) h2 (by omega)
        unfold patient
        simp only
        split
        · exact ⟨h1, h2, by omega⟩
        · split
          · exact ⟨Valid.none L a, h5, h6⟩
          · exact ⟨h1, h5, h6⟩

theorem copy_take {L : List UInt8} {a d : Nat} (hd : 1 ≤ d) (hda : d ≤ a) : ∀ n, a + n ≤ L.length → (∀ k, k < n → L.getD (a - d + k) 0 = L.getD (a + k) 0) → copyF d n (L.take a) = L.take (a + n)
  | 0, _, _ => rfl
  | n + 1, hl, h => by
    have ih := copy_take hd hda n (by omega) fun k hk => h k (by omega)
    rw [copyF_snoc, ih]
    have e1 : (L.take (a + n)).length = a + n := by simp; omega
    rw [e1]
    have e2 : (L.take (a + n)).getD (a + n - d) 0 = L.getD (a + n) 0 := by
      rw [← h n (by omega), List.getD_eq_getElem?_getD, List.getElem?_take, if_pos (by omega), ← List.getD_eq_getElem?_getD, show a + n - d = a - d + n from by omega]
    rw [e2, show a + (n + 1) = (a + n) + 1 from rfl, List.take_add_one, List.getD_eq_getElem?_getD, List.getElem?_eq_getElem (by omega)]
    rfl
theorem take_snoc {L : List UInt8} {a : Nat} (h : a < L.length) : L.take a ++ [L.getD a 0] = L.take (a + 1) := by
  rw [List.take_add_one, List.getD_eq_getElem?_getD, List.getElem?_eq_getElem h]
  rfl

/-- Tokens of a text say it. -/
theorem toks_say {L : List UInt8} {N : Nat} (M : Nat → Nat) (lvl : Nat) : ∀ (k : Nat) (t : St9) (a : Nat), L.length ≤ a + k → a ≤ L.length → Good9 L N t → t.kept ≤ a →
    expandF L.length (toks L M lvl k t a) (L.take a) = (L, 0) ∧ (toks L M lvl k t a).length ≤ L.length - a ∧ (lvl = 0 → (toks L M lvl k t a).length = L.length - a)
  | 0, t, a, h1, h2, _, _ => by
    rw [toks, expandF, List.take_of_length_le (by omega)]
    exact ⟨rfl, by simp, fun _ => by simp; omega⟩
  | k + 1, t, a, h1, h2, hg, hk => by
    rw [toks]
    obtain ⟨v1, v2, v3⟩ := look_valid M lvl a hg hk
    by_cases ha : a < L.length
    · rw [if_pos ha]
      have el : (L.take a).length = a := by simp; omega
      by_cases h0 : (look L M lvl t a).1.1 = 0
      · rw [if_pos h0]
        obtain ⟨i1, i2, i3⟩ := toks_say M lvl k (look L M lvl t a).2 (a + 1) (by omega) (by omega) v2 (by omega)
        refine ⟨?_, by simp only [List.length_cons]; omega, fun hl => by have := i3 hl; simp only [List.length_cons]; omega⟩
        rw [expandF, if_neg (by simp [mayB]), if_neg (by simp only; omega), if_neg (by simp only [sayN, el]; simp; omega)]
        rw [show layF ⟨L.getD a 0, 0, 0⟩ (L.take a) = L.take (a + 1) from by unfold layF; rw [if_pos rfl]; exact take_snoc ha]
        exact i1
      · rw [if_neg h0]
        rcases v1 with ⟨h, _⟩ | ⟨c1, c2, c3, c4, c5, c6, c7⟩
        · exact absurd h h0
        · obtain ⟨i1, i2, i3⟩ := toks_say M lvl k (look L M lvl t a).2 (a + (look L M lvl t a).1.1) (by omega) (by omega) v2 (by omega)
          obtain ⟨l, hl⟩ : ∃ l, (look L M lvl t a).1.1 = l := ⟨_, rfl⟩
          obtain ⟨b, hb⟩ : ∃ b, (look L M lvl t a).1.2 = b := ⟨_, rfl⟩
          rw [hl] at h0 c1 c2 c3 c7 i1 i2 i3 ⊢
          rw [hb] at c4 c5 c6 c7 ⊢
          have hn : ¬ (l : Int) = 0 := by omega
          refine ⟨?_, by simp only [List.length_cons]; omega, fun hl0 => ?_⟩
          · have hmay : mayB ⟨0, l, b⟩ = true := by
              unfold mayB
              rw [if_neg hn]
              simp [isLen, isDist]
              omega
            rw [expandF, if_neg (by rw [hmay]; decide), if_neg (by simp only [el]; omega), if_neg (by simp only [sayN, el, if_neg hn]; omega)]
            rw [show layF ⟨0, l, b⟩ (L.take a) = L.take (a + l) from by
              unfold layF
              rw [if_neg hn]
              exact copy_take c4 c6 l c3 c7]
            exact i1
          · subst hl0
            rw [look, if_pos rfl] at hl
            exact absurd hl.symm h0
    · rw [if_neg ha, expandF, List.take_of_length_le (by omega)]
      exact ⟨rfl, by simp, fun _ => by simp; omega⟩

/-- How many bytes tokens say that may be. -/
def sumT : List Tk → Int
  | [] => 0
  | t :: r => max 1 (min t.n 258) + sumT r
theorem toks_sum {L : List UInt8} {N : Nat} (M : Nat → Nat) (lvl : Nat) : ∀ (k : Nat) (t : St9) (a : Nat), L.length ≤ a + k → a ≤ L.length → Good9 L N t → t.kept ≤ a →
    sumT (toks L M lvl k t a) = (L.length - a : Nat)
  | 0, t, a, h1, h2, _, _ => by
    rw [toks, sumT]
    omega
  | k + 1, t, a, h1, h2, hg, hk => by
    rw [toks]
    obtain ⟨v1, v2, v3⟩ := look_valid M lvl a hg hk
    by_cases ha : a < L.length
    · rw [if_pos ha]
      by_cases h0 : (look L M lvl t a).1.1 = 0
      · rw [if_pos h0]
        have i1 := toks_sum M lvl k (look L M lvl t a).2 (a + 1) (by omega) (by omega) v2 (by omega)
        rw [sumT, i1]
        simp only
        omega
      · rw [if_neg h0]
        rcases v1 with ⟨h, _⟩ | ⟨c1, c2, c3, _⟩
        · exact absurd h h0
        · have i1 := toks_sum M lvl k (look L M lvl t a).2 (a + (look L M lvl t a).1.1) (by omega) (by omega) v2 (by omega)
          rw [sumT, i1]
          simp only
          omega
    · rw [if_neg ha, sumT]
      omega

theorem toks_short {L : List UInt8} {N : Nat} (M : Nat → Nat) (lvl : Nat) (k : Nat) (t : St9) (a : Nat) (h1 : L.length ≤ a + k) (h2 : a ≤ L.length) (hg : Good9 L N t) (hk : t.kept ≤ a) : (toks L M lvl k t a).length ≤ L.length - a :=
  (toks_say M lvl k t a h1 h2 hg hk).2.1
end Go.Proofs.YtaicihghndoclaaGreat

/- Words on memory for layer 9: slices that read as cells, what is kept below a block, bytes as text. -/
namespace Go.Proofs.YtaicihghndoclaaGreat
open Go.RowKit
section
variable {w w' w'' : World} {B C : Nat} {A : Option Addr} {vs : List Value} {S : Nat → Prop}
end

end Go.Proofs.YtaicihghndoclaaGreat

/- Layer 9, the program: the longest9 match at a place, by what is tried. -/
namespace Go.Proofs.YtaicihghndoclaaGreat
open Go.RowKit

theorem byte_at (s : ByteArray) (i : Nat) (h : i < s.size) : s[i]'h = s.data.toList.getD i 0 := by
  have h2 : i < s.data.toList.length := by simpa using h
  rw [List.getD_eq_getElem?_getD, List.getElem?_eq_getElem h2]
  rfl
theorem text_len (s : ByteArray) : s.data.toList.length = s.size := rfl
/-- The cells of a pick. -/
def pk (s : ByteArray) (a most l b : Nat) : List Value := [.string s, .int .i64 a, .int .i64 most, .int .i64 l, .int .i64 b]

theorem newPick (s : ByteArray) (a : Nat) (w : World) (hs : s.size ≤ 1073741824) (ha : a ≤ s.size) :
    Calls Tryz.prog 73 #[.string s, .int .i64 a] w fun e w' => e = .returned (.pointer (some ⟨w.heap.size, 0, none⟩)) ∧ Is w' w.heap.size 119 (pk s a (mostAt s.data.toList a) 0 0) ∧ Only (fun _ => False) w w' := by
  have b1 : (s.size : Int) ≤ 1073741824 := by omega
  have b2 : (a : Int) ≤ s.size := by omega
  have e2 : s.data.toList.length = s.size := rfl
  by_cases hm : (s.size : Int) - (a : Int) ≤ 258
  · have e3 : (s.size : Int) - (a : Int) = (mostAt s.data.toList a : Int) := by unfold mostAt; omega
    go_enter Tryz.func73, Tryz.ntmps73
    go_wp2
    go_ret
    rw [show min ((mostAt s.data.toList a : Nat) : Int) 258 = (mostAt s.data.toList a : Nat) from by unfold mostAt; omega]
    exact ⟨rfl, Is.new w 119 (pk s a (mostAt s.data.toList a) 0 0), (Only.refl _ w).alloc _⟩
  · have e3 : (258 : Int) = (mostAt s.data.toList a : Int) := by unfold mostAt; omega
    go_enter Tryz.func73, Tryz.ntmps73
    go_wp2
    go_ret
    rw [show min ((s.size : Int) - (a : Int)) ((mostAt s.data.toList a : Nat) : Int) = (mostAt s.data.toList a : Nat) from by unfold mostAt; omega]
    exact ⟨rfl, Is.new w 119 (pk s a (mostAt s.data.toList a) 0 0), (Only.refl _ w).alloc _⟩

theorem full (p : Nat) (s : ByteArray) (a most l b : Nat) (B : Bool) (w : World) (h : Is w p 119 (pk s a most l b)) (hB : ((l : Int) == (most : Int)) = B) :
    Calls Tryz.prog 75 #[.pointer (some ⟨p, 0, none⟩)] w fun e w' => e = .returned (.bool B) ∧ Only (fun _ => False) w w' := by
  have c2 := h.cell 2 rfl
  have c3 := h.cell 3 rfl
  have HB := Lib.hid hB
  clear h hB
  go_enter Tryz.func75, Tryz.ntmps75
  go_wp2_with fail
  go_quiet (fail)
  go_wp2
  go_ret
  rw [← HB.out]
  exact ⟨rfl, (Only.refl _ w).drewN _⟩

theorem only2 {w w2 : World} (h : Only (fun _ => False) w w2) (p i j : Nat) (u v : Value) : Only (fun x => x = p) w ((w2.setCell ⟨p, i, none⟩ u).setCell ⟨p, j, none⟩ v) :=
  Only.set (S := fun x => x = p) (Only.set (S := fun x => x = p) (h.mono fun _ f => f.elim) (p := ⟨p, i, none⟩) (.inl rfl) u) (p := ⟨p, j, none⟩) (.inl rfl) v

/-- The result of trying. -/
def TriedPost (w : World) (p : Nat) (s : ByteArray) (a most : Nat) (q : Nat × Nat) (e : Ending) (w' : World) : Prop := e = .returned (.tuple #[]) ∧ Is w' p 119 (pk s a most q.1 q.2) ∧ Only (· = p) w w'

set_option maxHeartbeats 4000000 in
theorem tried (p : Nat) (s : ByteArray) (a most l b d : Nat) (w : World) (h : Is w p 119 (pk s a most l b)) (hs : s.size ≤ 1073741824) (ha : a + most ≤ s.size) (h1 : 1 ≤ d) (hd : d ≤ a) (hm : most ≤ 258) (hl : l ≤ most) :
    Calls Tryz.prog 76 #[.pointer (some ⟨p, 0, none⟩), .int .i64 d] w (TriedPost w p s a most (pstep s.data.toList a most (l, b) d)) := by
  have HI := Lib.hid h
  have b1 : (s.size : Int) ≤ 1073741824 := by omega
  have c1 := h.cell 1 rfl
  obtain ⟨f, hf⟩ : ∃ f, f + d = a := ⟨a - d, by omega⟩
  have ef : (a : Int) - (d : Int) = (f : Int) := by omega
  clear h
  go_enter Tryz.func76, Tryz.ntmps76
  go_wp2_with fail
  clear c1
  go_loopg [5] most (fun gk i wx => ∃ k : Nat, i = .int .i64 k ∧ k + gk ≤ most ∧ most ≤ k + gk ∧ Hid (Only (fun _ => False) w wx) ∧ Hid (runN s.data.toList a f k = k))
  case atStart => exact ⟨0, rfl, by omega, by omega, Lib.hid (Only.refl _ w), Lib.hid rfl⟩
  case round =>
    obtain ⟨k, rfl, hk1, hk2, HO, HR⟩ := hrel
    have HI2 := Lib.hid (HI.out.only HO.out fun f => f)
    have c0 := HI2.out.cell 0 rfl
    have c1 := HI2.out.cell 1 rfl
    have c2 := HI2.out.cell 2 rfl
    by_cases hlt : k < most
    · obtain ⟨F, hF⟩ : ∃ F, f + k = F := ⟨_, rfl⟩
      obtain ⟨G, hG⟩ : ∃ G, a + k = G := ⟨_, rfl⟩
      have bF : (F : Int) < (s.size : Int) := by omega
      have bG : (G : Int) < (s.size : Int) := by omega
      have wF : IntKind.i64.wrap ((f : Int) + (k : Int)) = (F : Int) := by rw [IntWalk.i64_in _ (by omega)]; omega
      have wG : IntKind.i64.wrap ((a : Int) + (k : Int)) = (G : Int) := by rw [IntWalk.i64_in _ (by omega)]; omega
      obtain ⟨x, hx⟩ : ∃ x, s[F]'(by omega) = x := ⟨_, rfl⟩
      obtain ⟨y, hy⟩ : ∃ y, s[G]'(by omega) = y := ⟨_, rfl⟩
      have ex : s.data.toList.getD (f + k) 0 = x := by rw [← hx, byte_at, hF]
      have ey : s.data.toList.getD (a + k) 0 = y := by rw [← hy, byte_at, hG]
      have d1 : decide ((k : Int) < (most : Int)) = true := by simp; omega
      by_cases hxy : x = y
      · subst hxy
        have HR2 : Hid (runN s.data.toList a f (k + 1) = k + 1) := Lib.hid (runN_on HR.out (by rw [ex, ey]))
        clear ex ey HR
        go_upto_region 1 with fail
        go_quiet (fail)
        go_wp2
        go_roundg (gk - 1)
        case measure => omega
        case rel => exact ⟨k + 1, by go_num, by omega, by omega, Lib.hid (HO.out.drewN _), HR2⟩
      · have hne : ¬ ((x.toNat : Int) = (y.toNat : Int)) := fun e => hxy (UInt8.toNat_inj.1 (by omega))
        have hne2 : ((x.toNat : Int) == (y.toNat : Int)) = false := by simpa using hne
        have HR2 : Hid (runN s.data.toList a (a - d) most = k) := Lib.hid (by
          have := runN_stop HR.out (by rw [ex, ey]; exact hxy) (most - (k + 1))
          rw [show k + 1 + (most - (k + 1)) = most from by omega] at this
          rw [show a - d = f from by omega]
          exact this)
        clear ex ey HR
        go_upto_region 1 with fail
        go_quiet (fail)
        have HI3 : Hid (Is (wr.drewN nq) p 119 (pk s a most l b)) := Lib.hid HI2.out
        have HO3 : Hid (Only (fun _ => False) w (wr.drewN nq)) := Lib.hid (HO.out.drewN _)
        obtain ⟨w2, hw2⟩ : ∃ w2, wr.drewN nq = w2 := ⟨_, rfl⟩
        rw [hw2] at HI3 HO3 ⊢
        clear hw2 HI2 HO HI c0 c1 c2
        have c3 := HI3.out.cell 3 rfl
        have c4 := HI3.out.cell 4 rfl
        have f3 := HI3.out.frozen 3
        have f4 := HI3.out.frozen 4
        by_cases h3 : 3 ≤ k
        · by_cases h4 : l < k
          · have HP : Hid (pstep s.data.toList a most (l, b) d = (k, d)) := Lib.hid (by unfold pstep; rw [HR2.out, if_pos ⟨h3, h4⟩])
            have g3 : (3 : Int) ≤ (k : Int) := by omega
            have g4 : (l : Int) < (k : Int) := by omega
            clear hne hne2 hx hy
            go_wp2
            go_end0
            rw [HP.out]
            exact ⟨rfl, (HI3.out.set 3 _).set 4 _, only2 HO3.out p 3 4 _ _⟩
          · have HP : Hid (pstep s.data.toList a most (l, b) d = (l, b)) := Lib.hid (by unfold pstep; rw [HR2.out, if_neg (fun x => h4 x.2)])
            have g3 : (3 : Int) ≤ (k : Int) := by omega
            have g4 : ¬ (l : Int) < (k : Int) := by omega
            clear hne hne2 hx hy
            go_wp2
            go_end0
            rw [HP.out]
            exact ⟨rfl, HI3.out, HO3.out.mono fun _ f => f.elim⟩
        · have HP : Hid (pstep s.data.toList a most (l, b) d = (l, b)) := Lib.hid (by unfold pstep; rw [HR2.out, if_neg (fun x => h3 x.1)])
          have g3 : ¬ (3 : Int) ≤ (k : Int) := by omega
          clear hne hne2 hx hy
          go_wp2
          go_end0
          rw [HP.out]
          exact ⟨rfl, HI3.out, HO3.out.mono fun _ f => f.elim⟩
    · obtain rfl : k = most := by omega
      have d1 : decide ((k : Int) < (k : Int)) = false := by simp
      have HR2 : Hid (runN s.data.toList a (a - d) k = k) := Lib.hid (by
          rw [show a - d = f from by omega]
          exact HR.out)
      go_upto_region 1 with fail
      go_quiet (fail)
      have HI3 : Hid (Is (wr.drewN nq) p 119 (pk s a k l b)) := Lib.hid HI2.out
      have HO3 : Hid (Only (fun _ => False) w (wr.drewN nq)) := Lib.hid (HO.out.drewN _)
      obtain ⟨w2, hw2⟩ : ∃ w2, wr.drewN nq = w2 := ⟨_, rfl⟩
      rw [hw2] at HI3 HO3 ⊢
      clear hw2 HI2 HO HI c0 c1 c2
      have c3 := HI3.out.cell 3 rfl
      have c4 := HI3.out.cell 4 rfl
      have f3 := HI3.out.frozen 3
      have f4 := HI3.out.frozen 4
      by_cases h3 : 3 ≤ k
      · by_cases h4 : l < k
        · have HP : Hid (pstep s.data.toList a k (l, b) d = (k, d)) := Lib.hid (by unfold pstep; rw [HR2.out, if_pos ⟨h3, h4⟩])
          have g3 : (3 : Int) ≤ (k : Int) := by omega
          have g4 : (l : Int) < (k : Int) := by omega
          go_wp2
          go_end0
          rw [HP.out]
          exact ⟨rfl, (HI3.out.set 3 _).set 4 _, only2 HO3.out p 3 4 _ _⟩
        · have HP : Hid (pstep s.data.toList a k (l, b) d = (l, b)) := Lib.hid (by unfold pstep; rw [HR2.out, if_neg (fun x => h4 x.2)])
          have g3 : (3 : Int) ≤ (k : Int) := by omega
          have g4 : ¬ (l : Int) < (k : Int) := by omega
          go_wp2
          go_end0
          rw [HP.out]
          exact ⟨rfl, HI3.out, HO3.out.mono fun _ f => f.elim⟩
      · have HP : Hid (pstep s.data.toList a k (l, b) d = (l, b)) := Lib.hid (by unfold pstep; rw [HR2.out, if_neg (fun x => h3 x.1)])
        have g3 : ¬ (3 : Int) ≤ (k : Int) := by omega
        go_wp2
        go_end0
        rw [HP.out]
        exact ⟨rfl, HI3.out, HO3.out.mono fun _ f => f.elim⟩

end Go.Proofs.YtaicihghndoclaaGreat

/- Layer 9, the program: marks of places. -/
namespace Go.Proofs.YtaicihghndoclaaGreat
open Go.RowKit

/-- The cells of a trail. -/
def tr (s : ByteArray) (wd W N O kept : Nat) : List Value := [.string s, .int .i64 wd, .slice (some ⟨N, 0, none⟩) W W, .slice (some ⟨O, 0, none⟩) s.size s.size, .int .i64 kept]

theorem inW9 (m : Nat) (h : m ≤ 1000000000000) : wrap64 (m : Int) = (m : Int) := by
  unfold wrap64
  omega
/-- The mark of three bytes. -/
def markZ (x y z : UInt8) : Int :=
  bits BinOp.or IntKind.u32 (bits BinOp.or IntKind.u32 ((x.toNat : Int) % 4294967296 * 65536 % 4294967296) ((y.toNat : Int) % 4294967296 * 256 % 4294967296)) ((z.toNat : Int) % 4294967296) * 2654435761 % 4294967296
def markN (x y z : UInt8) (wd : Nat) : Nat := (markZ x y z / 2 ^ (32 - wd)).toNat
def markAt (L : List UInt8) (wd i : Nat) : Nat := markN (L.getD i 0) (L.getD (i + 1) 0) (L.getD (i + 2) 0) wd
theorem markN_is (x y z : UInt8) (wd : Nat) (h : wd ≤ 32) : markZ x y z / 2 ^ (32 - wd) = (markN x y z wd : Int) ∧ markN x y z wd < 2 ^ wd := by
  have h1 : 0 ≤ markZ x y z := Int.emod_nonneg _ (by decide)
  have h2 : markZ x y z < 4294967296 := Int.emod_lt_of_pos _ (by decide)
  have hp : (2 : Int) ^ wd * 2 ^ (32 - wd) = 4294967296 := by rw [← Int.pow_add, show wd + (32 - wd) = 32 from by omega]; rfl
  have h0 : (0 : Int) < 2 ^ (32 - wd) := Int.pow_pos (by decide)
  have h3 : 0 ≤ markZ x y z / 2 ^ (32 - wd) := Int.ediv_nonneg h1 (Int.le_of_lt h0)
  have h4 : markZ x y z / 2 ^ (32 - wd) < 2 ^ wd := Int.ediv_lt_of_lt_mul h0 (by rw [hp]; exact h2)
  have e : markZ x y z / 2 ^ (32 - wd) = (markN x y z wd : Int) := by unfold markN; omega
  refine ⟨e, ?_⟩
  rw [e] at h4
  exact_mod_cast h4
theorem markAt_lt (L : List UInt8) (wd i : Nat) (h : wd ≤ 32) : markAt L wd i < 2 ^ wd := (markN_is _ _ _ wd h).2

set_option maxHeartbeats 4000000 in
theorem mark (T : Nat) (s : ByteArray) (wd W N O kept a : Nat) (w : World) (h : Is w T 71 (tr s wd W N O kept)) (hs : s.size ≤ 1073741824) (ha : a + 3 ≤ s.size) (hwd : wd ≤ 15) :
    Calls Tryz.prog 74 #[.pointer (some ⟨T, 0, none⟩), .int .i64 a] w fun e w' => e = .returned (.int .i64 (markAt s.data.toList wd a : Nat)) ∧ ∃ k, w' = w.drewN k := by
  have b1 : (s.size : Int) ≤ 1073741824 := by omega
  have c0 := h.cell 0 rfl
  have c1 := h.cell 1 rfl
  obtain ⟨A1, hA1⟩ : ∃ A1, a + 1 = A1 := ⟨_, rfl⟩
  obtain ⟨A2, hA2⟩ : ∃ A2, a + 2 = A2 := ⟨_, rfl⟩
  have l0 : (a : Int) < (s.size : Int) := by omega
  have l1 : (A1 : Int) < (s.size : Int) := by omega
  have l2 : (A2 : Int) < (s.size : Int) := by omega
  have w1 : IntKind.i64.wrap ((a : Int) + 1) = (A1 : Int) := by rw [IntWalk.i64_in _ (by omega)]; omega
  have w2 : IntKind.i64.wrap ((a : Int) + 2) = (A2 : Int) := by rw [IntWalk.i64_in _ (by omega)]; omega
  obtain ⟨x, hx⟩ : ∃ x, s[a]'(by omega) = x := ⟨_, rfl⟩
  obtain ⟨y, hy⟩ : ∃ y, s[A1]'(by omega) = y := ⟨_, rfl⟩
  obtain ⟨z, hz⟩ : ∃ z, s[A2]'(by omega) = z := ⟨_, rfl⟩
  obtain ⟨m, hm⟩ : ∃ m, markN x y z wd = m := ⟨_, rfl⟩
  have HM : Hid (markAt s.data.toList wd a = m) := Lib.hid (by unfold markAt; rw [hA1, hA2, ← byte_at s a (by omega), ← byte_at s A1 (by omega), ← byte_at s A2 (by omega), hx, hy, hz, hm])
  have hlt := (markN_is x y z wd (by omega)).2
  have hle : 2 ^ wd ≤ 2 ^ 15 := Nat.pow_le_pow_right (by decide) hwd
  have HE : Hid (wrap64 (markZ x y z / 2 ^ (32 - wd)) = (m : Int)) := Lib.hid (by
    rw [(markN_is x y z wd (by omega)).1, hm]
    rw [hm] at hlt
    exact inW9 m (by omega))
  clear h hm hlt hle
  go_enter Tryz.func74, Tryz.ntmps74
  go_upto_region 1 with fail
  go_quiet (fail)
  go_wp2
  go_ret
  rw [HM.out, ← HE.out]
  exact ⟨rfl, _, rfl⟩

theorem marked (T : Nat) (s : ByteArray) (wd W N O kept a : Nat) (B : Bool) (w : World) (h : Is w T 71 (tr s wd W N O kept)) (hs : s.size ≤ 1073741824) (ha : a ≤ 1073741824) (hB : decide (a + 3 ≤ s.size) = B) :
    Calls Tryz.prog 71 #[.pointer (some ⟨T, 0, none⟩), .int .i64 a] w fun e w' => e = .returned (.bool B) ∧ Only (fun _ => False) w w' := by
  have b1 : (s.size : Int) ≤ 1073741824 := by omega
  have b2 : (a : Int) ≤ 1073741824 := by omega
  have c0 := h.cell 0 rfl
  have HB := Lib.hid hB
  clear h hB
  by_cases h3 : a + 3 ≤ s.size
  · have e1 : (3 : Int) ≤ (s.size : Int) - (a : Int) := by omega
    go_enter Tryz.func71, Tryz.ntmps71
    go_wp2
    go_ret
    rw [← HB.out]
    exact ⟨by simp [h3], Only.refl _ w⟩
  · have e1 : ¬ (3 : Int) ≤ (s.size : Int) - (a : Int) := by omega
    go_enter Tryz.func71, Tryz.ntmps71
    go_wp2
    go_ret
    rw [← HB.out]
    exact ⟨by simp [h3], Only.refl _ w⟩
end Go.Proofs.YtaicihghndoclaaGreat

/- Layer 9, the program: places are kept. -/
namespace Go.Proofs.YtaicihghndoclaaGreat
open Go.RowKit

def nats (l : List Nat) : List Value := l.map fun n => .int .i64 (n : Nat)
theorem nats_at (l : List Nat) (i : Nat) (h : i < l.length) : (nats l)[i]? = some (.int .i64 (l.getD i 0 : Nat)) := by
  simp [nats, h]
theorem nats_set (l : List Nat) (i x : Nat) : (nats l).set i (.int .i64 (x : Nat)) = nats (l.set i x) := by
  simp [nats, List.map_set]
/-- Where a trail lies, and what it keeps. -/
structure Tr (w : World) (T N O : Nat) (s : ByteArray) (wd W : Nat) (t : St9) : Prop where
  it : Is w T 71 (tr s wd W N O t.kept)
  nn : Is w N 3 (nats t.nn)
  oo : Is w O 3 (nats t.oo)
  tN : T ≠ N
  tO : T ≠ O
  nO : N ≠ O
  good : Good9 s.data.toList W t
  w1 : wd ≤ 15
  w2 : 2 ^ wd = W
  sz : s.size ≤ 16777216
/-- The blocks of a trail. -/
def Of (T N O : Nat) (j : Nat) : Prop := j = T ∨ j = N ∨ j = O
section
variable {w w' : World} {T N O wd W : Nat} {s : ByteArray} {t : St9} {S : Nat → Prop}
theorem Tr.only (h : Tr w T N O s wd W t) (k : Only S w w') (hT : ¬ S T) (hN : ¬ S N) (hO : ¬ S O) : Tr w' T N O s wd W t :=
  ⟨h.it.only k hT, h.nn.only k hN, h.oo.only k hO, h.tN, h.tO, h.nO, h.good, h.w1, h.w2, h.sz⟩
theorem Tr.new (h : Tr w T N O s wd W t) (k : Only (fun _ => False) w w') : Tr w' T N O s wd W t := h.only k id id id
end

set_option maxHeartbeats 4000000 in
theorem keepUpTo (T N O a wd W : Nat) (s : ByteArray) (t : St9) (w : World) (h : Tr w T N O s wd W t) (ha : a + 2 ≤ s.size) :
    Calls Tryz.prog 72 #[.pointer (some ⟨T, 0, none⟩), .int .i64 a] w fun e w' => e = .returned (.tuple #[]) ∧ Tr w' T N O s wd W (keepTo (markAt s.data.toList wd) a t) ∧ Only (Of T N O) w w' := by
  have HS := h.sz
  have b2 : (a : Int) ≤ 16777216 := by omega
  obtain ⟨n, hn⟩ : ∃ n, a - t.kept = n := ⟨_, rfl⟩
  have HK : Hid (keepTo (markAt s.data.toList wd) a t = keepN (markAt s.data.toList wd) n t) := Lib.hid (by unfold keepTo; rw [hn])
  have HT := Lib.hid h
  have hkn : (t.kept + n = a ∨ (n = 0 ∧ a ≤ t.kept)) := by omega
  have HKN := Lib.hid hkn
  clear h hn hkn
  go_enter Tryz.func72, Tryz.ntmps72
  go_wp2_with fail
  go_loopg [4] n (fun gk v wx => ∃ (t' : St9), Hid (Tr wx T N O s wd W t') ∧ Hid (keepN (markAt s.data.toList wd) gk t' = keepN (markAt s.data.toList wd) n t) ∧ Hid (t'.kept + gk = a ∨ (gk = 0 ∧ a ≤ t'.kept)) ∧ Hid (Only (Of T N O) w wx))
  case atStart => exact ⟨t, HT, Lib.hid rfl, HKN, Lib.hid (Only.refl _ w)⟩
  case round =>
    clear HT HKN
    obtain ⟨t', HT, HE, HG, HO⟩ := hrel
    obtain ⟨kept, hkept⟩ : ∃ k, t'.kept = k := ⟨_, rfl⟩
    have hg := HG.out
    rw [hkept] at hg
    have hit : Is wr T 71 (tr s wd W N O kept) := hkept ▸ HT.out.it
    have HIT := Lib.hid hit
    have c2 := hit.cell 2 rfl
    have c3 := hit.cell 3 rfl
    have c4 := hit.cell 4 rfl
    by_cases hlt : kept < a
    · have hg1 : kept + gk = a := by omega
      obtain ⟨m, hm⟩ : ∃ m, markAt s.data.toList wd kept = m := ⟨_, rfl⟩
      have hml : m < W := by rw [← hm, ← HT.out.w2]; exact markAt_lt _ _ _ (by have := HT.out.w1; omega)
      have hW : W ≤ 32768 := by
        have := Nat.pow_le_pow_right (n := 2) (by decide) HT.out.w1
        rw [HT.out.w2] at this
        omega
      have HM := Lib.hid hm
      clear hm hg hit
      go_upto_region 3 with (go_at_call 74; refine (mark T s wd W N O kept kept _ HIT.out (by omega) (by omega) HT.out.w1).mono ?_; rw [HM.out]; rintro e w1 ⟨rfl, n1, rfl⟩)
      have HT2 : Hid (Tr (wr.drewN n1) T N O s wd W t') := Lib.hid (HT.out.new ((Only.refl _ wr).drewN n1))
      have HO2 : Hid (Only (Of T N O) w (wr.drewN n1)) := Lib.hid (HO.out.drewN n1)
      obtain ⟨w2, hw2⟩ : ∃ w2, wr.drewN n1 = w2 := ⟨_, rfl⟩
      rw [hw2] at HT2 HO2 ⊢
      clear hw2 HT HO HIT c2 c3 c4
      obtain ⟨x, hx⟩ : ∃ x, t'.nn.getD m 0 = x := ⟨_, rfl⟩
      have HX := Lib.hid hx
      have hit : Is w2 T 71 (tr s wd W N O kept) := hkept ▸ HT2.out.it
      have c2 := hit.cell 2 rfl
      have c3 := hit.cell 3 rfl
      have c4 := hit.cell 4 rfl
      have d1 := HT2.out.nn.cell m (nats_at t'.nn m (by rw [HT2.out.good.nl]; exact hml))
      rw [hx] at d1
      have f1 := HT2.out.oo.frozen kept
      have d2 := HT2.out.oo.cell kept (nats_at t'.oo kept (by rw [HT2.out.good.ol]; show kept < s.size; omega))
      have l1 : (m : Int) < (W : Int) := by omega
      have l2 : (kept : Int) < (s.size : Int) := by omega
      clear hx hit
      go_region
      have i3 : Is (w2.setCell ⟨O, kept, none⟩ (.int .i64 (x : Nat))).drew T 71 (tr s wd W N O kept) := Is.far (hkept ▸ HT2.out.it) HT2.out.tO _
      have n3 : Is (w2.setCell ⟨O, kept, none⟩ (.int .i64 (x : Nat))).drew N 3 (nats t'.nn) := Is.far HT2.out.nn HT2.out.nO _
      have o3 : Is (w2.setCell ⟨O, kept, none⟩ (.int .i64 (x : Nat))).drew O 3 (nats (t'.oo.set kept x)) := by
        have := Is.set HT2.out.oo kept (.int .i64 (x : Nat))
        rw [nats_set] at this
        exact this
      have ho3 : Only (Of T N O) w (w2.setCell ⟨O, kept, none⟩ (.int .i64 (x : Nat))).drew := (HO2.out.set (p := ⟨O, kept, none⟩) (.inl (.inr (.inr rfl))) _).drew
      obtain ⟨w3, hw3⟩ : ∃ w3, (w2.setCell ⟨O, kept, none⟩ (.int .i64 (x : Nat))).drew = w3 := ⟨_, rfl⟩
      rw [hw3] at i3 n3 o3 ho3 ⊢
      have HI3 := Lib.hid i3
      have HN3 := Lib.hid n3
      have HO3 := Lib.hid o3
      have HW3 := Lib.hid ho3
      clear hw3 i3 n3 o3 ho3 HO2 c2 c3 c4 d1 d2 f1
      obtain ⟨K1, hK1⟩ : ∃ K1, kept + 1 = K1 := ⟨_, rfl⟩
      have e1 : IntKind.i64.wrap ((kept : Int) + 1) = (K1 : Int) := by rw [IntWalk.i64_in _ (by omega)]; omega
      have c2 := HI3.out.cell 2 rfl
      have c3 := HI3.out.cell 3 rfl
      have c4 := HI3.out.cell 4 rfl
      have d1 := HN3.out.cell m (nats_at t'.nn m (by rw [HT2.out.good.nl]; exact hml))
      have f1 := HN3.out.frozen m
      go_upto_region 4 with fail
      go_region
      have i4 : Is (w3.setCell ⟨N, m, none⟩ (.int .i64 (K1 : Nat))).drew T 71 (tr s wd W N O kept) := Is.far HI3.out HT2.out.tN _
      have o4 : Is (w3.setCell ⟨N, m, none⟩ (.int .i64 (K1 : Nat))).drew O 3 (nats (t'.oo.set kept x)) := Is.far HO3.out HT2.out.nO.symm _
      have n4 : Is (w3.setCell ⟨N, m, none⟩ (.int .i64 (K1 : Nat))).drew N 3 (nats (t'.nn.set m K1)) := by
        have := Is.set HN3.out m (.int .i64 (K1 : Nat))
        rw [nats_set] at this
        exact this
      have ho4 : Only (Of T N O) w (w3.setCell ⟨N, m, none⟩ (.int .i64 (K1 : Nat))).drew := (HW3.out.set (p := ⟨N, m, none⟩) (.inl (.inr (.inl rfl))) _).drew
      obtain ⟨w4, hw4⟩ : ∃ w4, (w3.setCell ⟨N, m, none⟩ (.int .i64 (K1 : Nat))).drew = w4 := ⟨_, rfl⟩
      rw [hw4] at i4 n4 o4 ho4 ⊢
      have HI4 := Lib.hid i4
      have HN4 := Lib.hid n4
      have HO4 := Lib.hid o4
      have HW4 := Lib.hid ho4
      clear hw4 i4 n4 o4 ho4 HI3 HN3 HO3 HW3 c2 c3 c4 d1 f1
      have e3 : (kept : Int) + 1 = (K1 : Int) := by omega
      have c4 := HI4.out.cell 4 rfl
      have f4 := HI4.out.frozen 4
      clear e1
      go_wp2_with fail
      have HK1 : Hid (keep1 (markAt s.data.toList wd) t' = ⟨t'.nn.set m K1, t'.oo.set kept x, K1⟩) := Lib.hid (by unfold keep1; rw [hkept, HM.out, HX.out, hK1])
      have HTN : Hid (Tr (w4.setCell ⟨T, 4, none⟩ (.int .i64 (K1 : Nat))) T N O s wd W (keep1 (markAt s.data.toList wd) t')) := Lib.hid (by
        have hg := HT2.out.good.keep1 (markAt s.data.toList wd)
        rw [HK1.out] at hg ⊢
        exact ⟨HI4.out.set 4 _, Is.far HN4.out HT2.out.tN.symm _, Is.far HO4.out HT2.out.tO.symm _, HT2.out.tN, HT2.out.tO, HT2.out.nO, hg, HT2.out.w1, HT2.out.w2, HT2.out.sz⟩)
      have HWN : Hid (Only (Of T N O) w (w4.setCell ⟨T, 4, none⟩ (.int .i64 (K1 : Nat)))) := Lib.hid (HW4.out.set (p := ⟨T, 4, none⟩) (.inl (.inl rfl)) _)
      go_roundg (gk - 1)
      case measure => omega
      case rel =>
        refine ⟨_, HTN, Lib.hid ?_, Lib.hid ?_, HWN⟩
        · rw [← HE.out]
          obtain ⟨g, rfl⟩ : ∃ g, gk = g + 1 := ⟨gk - 1, by omega⟩
          rfl
        · rw [HK1.out]
          simp only
          omega
    · have hg0 : gk = 0 := by omega
      have HF : Hid (t' = keepTo (markAt s.data.toList wd) a t) := Lib.hid (by
        rw [HK.out, ← HE.out, hg0]
        rfl)
      clear hg hg0 hit
      go_wp2
      go_end0
      rw [← HF.out]
      exact ⟨rfl, HT.out, HO.out⟩
end Go.Proofs.YtaicihghndoclaaGreat

