/- Layer 9 in plain words: matches, the longest one, a trail of places, tokens of a text. -/
namespace Go.Proofs.Ytgkplmjbjbikmaa

/-- A token: its byte, its length, how far back. -/
structure Tk where
  b : UInt8
  n : Int
  k : Int

def isLen (x : Int) : Bool := decide (3 ≤ x) && decide (x ≤ 258)
def isDist (x : Int) : Bool := decide (1 ≤ x) && decide (x ≤ 32768)
def mayB (t : Tk) : Bool := if t.n = 0 then decide (t.k = 0) else isLen t.n && isDist t.k && decide (t.b.toNat = 0)

/-- n times the byte that stands k bytes ahead. -/
def copyF (k : Nat) : Nat → List UInt8 → List UInt8
  | 0, l => l
  | n + 1, l => copyF k n (l ++ [l.getD (l.length - k) 0])
def layF (t : Tk) (l : List UInt8) : List UInt8 := if t.n = 0 then l ++ [t.b] else copyF t.k.toNat t.n.toNat l
/-- How many bytes it says. -/
def sayN (t : Tk) : Int := if t.n = 0 then 1 else t.n
def expandF (most : Int) : List Tk → List UInt8 → List UInt8 × Int
  | [], l => (l, 0)
  | t :: r, l => if mayB t = false then ([], 1) else if (l.length : Int) < t.k then ([], 2) else if most < l.length + sayN t then ([], 7) else expandF most r (layF t l)

theorem copyF_snoc (k : Nat) : ∀ (n : Nat) (l : List UInt8), copyF k (n + 1) l = copyF k n l ++ [(copyF k n l).getD ((copyF k n l).length - k) 0]
  | 0, _ => rfl
  | n + 1, l => by
    rw [copyF, copyF_snoc k n]
    rfl
theorem copyF_length (k : Nat) : ∀ (n : Nat) (l : List UInt8), (copyF k n l).length = l.length + n
  | 0, _ => rfl
  | n + 1, l => by
    rw [copyF, copyF_length k n]
    simp
    omega
theorem may_cases (t : Tk) (h : mayB t = true) : (t.n = 0 ∧ t.k = 0) ∨ (3 ≤ t.n ∧ t.n ≤ 258 ∧ 1 ≤ t.k ∧ t.k ≤ 32768) := by
  unfold mayB at h
  split at h
  · rename_i e
    exact .inl ⟨e, by simpa using h⟩
  · simp [isLen, isDist] at h
    exact .inr ⟨h.1.1.1, h.1.1.2, h.1.2.1, h.1.2.2⟩
theorem say_le (t : Tk) (h : mayB t = true) : 1 ≤ sayN t ∧ sayN t ≤ 258 := by
  unfold sayN
  rcases may_cases t h with ⟨h1, _⟩ | ⟨h1, h2, _, _⟩
  · simp [h1]
  · have : ¬ t.n = 0 := by omega
    rw [if_neg this]
    omega

/-- How many bytes from a on are those from f on, m at most. -/
def runN (L : List UInt8) (a f : Nat) : Nat → Nat
  | 0 => 0
  | m + 1 => if runN L a f m = m ∧ L.getD (f + m) 0 = L.getD (a + m) 0 then m + 1 else runN L a f m
theorem runN_le (L : List UInt8) (a f : Nat) : ∀ m, runN L a f m ≤ m
  | 0 => Nat.le_refl _
  | m + 1 => by
    rw [runN]
    split
    · exact Nat.le_refl _
    · have := runN_le L a f m; omega
theorem runN_on {L : List UInt8} {a f m : Nat} (h : runN L a f m = m) (e : L.getD (f + m) 0 = L.getD (a + m) 0) : runN L a f (m + 1) = m + 1 := by
  rw [runN, if_pos ⟨h, e⟩]
theorem runN_stop {L : List UInt8} {a f k : Nat} (h : runN L a f k = k) (e : ¬ L.getD (f + k) 0 = L.getD (a + k) 0) : ∀ m, runN L a f (k + 1 + m) = k
  | 0 => by rw [Nat.add_zero, runN, if_neg (fun x => e x.2), h]
  | m + 1 => by
    have := runN_stop h e m
    rw [show k + 1 + (m + 1) = (k + 1 + m) + 1 from by omega, runN, if_neg (fun x => by omega), this]
theorem runN_same {L : List UInt8} {a f : Nat} : ∀ (m k : Nat), k < runN L a f m → L.getD (f + k) 0 = L.getD (a + k) 0
  | 0, k, h => by simp [runN] at h
  | m + 1, k, h => by
    rw [runN] at h
    split at h
    · rename_i hh
      rcases Nat.lt_or_ge k m with h1 | h1
      · exact runN_same m k (by omega)
      · obtain rfl : k = m := by omega
        exact hh.2
    · exact runN_same m k h
theorem runN_all {L : List UInt8} {a f : Nat} : ∀ m, (∀ k, k < m → L.getD (f + k) 0 = L.getD (a + k) 0) → runN L a f m = m
  | 0, _ => rfl
  | m + 1, h => runN_on (runN_all m fun k hk => h k (by omega)) (h m (by omega))

/-- The match with what stands so far back, if it is longer. -/
def pstep (L : List UInt8) (a most : Nat) (p : Nat × Nat) (d : Nat) : Nat × Nat :=
  if 3 ≤ runN L a (a - d) most ∧ p.1 < runN L a (a - d) most then (runN L a (a - d) most, d) else p
/-- The longest of those up to so far back. -/
def bestTo (L : List UInt8) (a most : Nat) : Nat → Nat × Nat
  | 0 => (0, 0)
  | k + 1 => pstep L a most (bestTo L a most k) (k + 1)
def mostAt (L : List UInt8) (a : Nat) : Nat := min 258 (L.length - a)
def best (L : List UInt8) (a : Nat) : Nat × Nat := bestTo L a (mostAt L a) (min a 32768)
theorem pstep_le (L : List UInt8) (a most : Nat) (p : Nat × Nat) (d : Nat) (h : p.1 ≤ most) : (pstep L a most p d).1 ≤ most := by
  unfold pstep
  split
  · exact runN_le ..
  · exact h
theorem pstep_full (L : List UInt8) (a most : Nat) (p : Nat × Nat) (d : Nat) (h : p.1 = most) : pstep L a most p d = p := by
  unfold pstep
  have := runN_le L a (a - d) most
  rw [if_neg (by omega)]
theorem bestTo_le (L : List UInt8) (a most : Nat) : ∀ k, (bestTo L a most k).1 ≤ most
  | 0 => Nat.zero_le _
  | k + 1 => pstep_le _ _ _ _ _ (bestTo_le L a most k)
theorem bestTo_full (L : List UInt8) (a most k : Nat) (h : (bestTo L a most k).1 = most) : ∀ j, bestTo L a most (k + j) = bestTo L a most k
  | 0 => rfl
  | j + 1 => by
    have := bestTo_full L a most k h j
    rw [show k + (j + 1) = (k + j) + 1 from by omega, bestTo, this, pstep_full _ _ _ _ _ h]
theorem bestTo_back (L : List UInt8) (a most : Nat) : ∀ k, (bestTo L a most k).2 ≤ k
  | 0 => Nat.zero_le _
  | k + 1 => by
    have := bestTo_back L a most k
    rw [bestTo]
    unfold pstep
    split
    · exact Nat.le_refl _
    · omega

/-- What a trail keeps: by mark, by place, how many. -/
structure St where
  nn : List Nat
  oo : List Nat
  kept : Nat
def keep1 (M : Nat → Nat) (t : St) : St := ⟨t.nn.set (M t.kept) (t.kept + 1), t.oo.set t.kept (t.nn.getD (M t.kept) 0), t.kept + 1⟩
def keepN (M : Nat → Nat) : Nat → St → St
  | 0, t => t
  | n + 1, t => keepN M n (keep1 M t)
def keepTo (M : Nat → Nat) (a : Nat) (t : St) : St := keepN M (a - t.kept) t
def srch (L : List UInt8) (a most : Nat) (oo : List Nat) : Nat → Nat → Nat × Nat → Nat × Nat
  | 0, _, p => p
  | _ + 1, 0, p => p
  | k + 1, f + 1, p => if 32768 < a - f ∨ p.1 = most then p else srch L a most oo k (oo.getD f 0) (pstep L a most p (a - f))
def search (L : List UInt8) (M : Nat → Nat) (tries : Nat) (t : St) (a : Nat) : (Nat × Nat) × St :=
  if a + 3 ≤ L.length then (srch L a (mostAt L a) (keepTo M a t).oo tries ((keepTo M a t).nn.getD (M a) 0) (0, 0), keepTo M a t) else ((0, 0), t)
def patient (L : List UInt8) (M : Nat → Nat) (t : St) (a : Nat) : (Nat × Nat) × St :=
  let x := search L M 128 t a
  if x.1.1 = 0 ∨ 32 ≤ x.1.1 then x else
    let y := search L M 128 x.2 (a + 1)
    if x.1.1 < y.1.1 then ((0, 0), y.2) else (x.1, y.2)
def look (L : List UInt8) (M : Nat → Nat) (lvl : Nat) (t : St) (a : Nat) : (Nat × Nat) × St :=
  if lvl = 0 then ((0, 0), t) else if lvl = 1 then search L M 1 t a else if lvl = 2 then search L M 8 t a else patient L M t a
/-- The tokens from a place on. -/
def toks (L : List UInt8) (M : Nat → Nat) (lvl : Nat) : Nat → St → Nat → List Tk
  | 0, _, _ => []
  | k + 1, t, a => if a < L.length then
      (if (look L M lvl t a).1.1 = 0 then ⟨L.getD a 0, 0, 0⟩ :: toks L M lvl k (look L M lvl t a).2 (a + 1)
        else ⟨0, (look L M lvl t a).1.1, (look L M lvl t a).1.2⟩ :: toks L M lvl k (look L M lvl t a).2 (a + (look L M lvl t a).1.1)) else []

/-- A trail's state that may be. -/
structure Good (L : List UInt8) (N : Nat) (t : St) : Prop where
  nl : t.nn.length = N
  ol : t.oo.length = L.length
  nb : ∀ i : Nat, t.nn.getD i 0 ≤ t.kept
  ob : ∀ j : Nat, t.oo.getD j 0 ≤ j
theorem getD_set (l : List Nat) (i j x : Nat) : (l.set i x).getD j 0 = if i = j ∧ j < l.length then x else l.getD j 0 := by
  rw [List.getD_eq_getElem?_getD, List.getD_eq_getElem?_getD, List.getElem?_set]
  by_cases h : i = j
  · by_cases h2 : i < l.length
    · rw [if_pos h, if_pos h2, if_pos ⟨h, by omega⟩]; rfl
    · rw [if_pos h, if_neg h2, if_neg (by omega), List.getElem?_eq_none (by omega)]
  · rw [if_neg h, if_neg (fun x => h x.1)]
theorem Good.keep1 {L : List UInt8} {N : Nat} {t : St} (M : Nat → Nat) (h : Good L N t) : Good L N (keep1 M t) := by
  refine ⟨by simpa [Ytgkplmjbjbikmaa.keep1] using h.nl, by simpa [Ytgkplmjbjbikmaa.keep1] using h.ol, fun i => ?_, fun j => ?_⟩
  · have := h.nb i
    simp only [Ytgkplmjbjbikmaa.keep1]
    rw [getD_set]
    split <;> omega
  · have := h.ob j
    have h2 := h.nb (M t.kept)
    simp only [Ytgkplmjbjbikmaa.keep1]
    rw [getD_set]
    split
    · rename_i hh; omega
    · exact this
theorem Good.keepN {L : List UInt8} {N : Nat} (M : Nat → Nat) : ∀ (n : Nat) (t : St), Good L N t → Good L N (keepN M n t)
  | 0, _, h => h
  | n + 1, _, h => Good.keepN M n _ (h.keep1 M)
theorem keepN_kept (M : Nat → Nat) : ∀ (n : Nat) (t : St), (keepN M n t).kept = t.kept + n
  | 0, _ => rfl
  | n + 1, t => by rw [keepN, keepN_kept M n]; simp only [keep1]; omega
theorem Good.keepTo {L : List UInt8} {N : Nat} {t : St} (M : Nat → Nat) (a : Nat) (h : Good L N t) : Good L N (keepTo M a t) := h.keepN M _
theorem keepTo_kept (M : Nat → Nat) (a : Nat) (t : St) (h : t.kept ≤ a) : (keepTo M a t).kept = a := by
  unfold keepTo
  rw [keepN_kept]
  omega

/-- A match, or none. -/
def Valid (L : List UInt8) (a : Nat) (p : Nat × Nat) : Prop :=
  (p.1 = 0 ∧ p.2 = 0) ∨ (3 ≤ p.1 ∧ p.1 ≤ 258 ∧ a + p.1 ≤ L.length ∧ 1 ≤ p.2 ∧ p.2 ≤ 32768 ∧ p.2 ≤ a ∧ ∀ k, k < p.1 → L.getD (a - p.2 + k) 0 = L.getD (a + k) 0)
theorem Valid.step {L : List UInt8} {a : Nat} {p : Nat × Nat} (h : Valid L a p) (ha : a ≤ L.length) (d : Nat) (h1 : 1 ≤ d) (h2 : d ≤ 32768) (h3 : d ≤ a) : Valid L a (pstep L a (mostAt L a) p d) := by
  unfold pstep
  have hm : mostAt L a ≤ 258 ∧ mostAt L a ≤ L.length - a := by unfold mostAt; omega
  have hr := runN_le L a (a - d) (mostAt L a)
  split
  · rename_i hh
    exact .inr ⟨hh.1, by simp only; omega, by simp only; omega, h1, h2, h3, fun k hk => runN_same _ k hk⟩
  · exact h
theorem Valid.srch {L : List UInt8} {a : Nat} (oo : List Nat) (ob : ∀ j : Nat, oo.getD j 0 ≤ j) (ha : a ≤ L.length) : ∀ (k f : Nat) (p : Nat × Nat), f ≤ a → Valid L a p → Valid L a (srch L a (mostAt L a) oo k f p)
  | 0, f, p, _, h => by rw [Ytgkplmjbjbikmaa.srch]; exact h
  | k + 1, 0, p, _, h => by rw [Ytgkplmjbjbikmaa.srch]; exact h
  | k + 1, f + 1, p, hf, h => by
    rw [Ytgkplmjbjbikmaa.srch]
    split
    · exact h
    · rename_i hh
      have := ob f
      exact Valid.srch oo ob ha k _ _ (by omega) (h.step ha _ (by omega) (by omega) (by omega))
theorem Valid.none (L : List UInt8) (a : Nat) : Valid L a (0, 0) := .inl ⟨rfl, rfl⟩
theorem search_valid {L : List UInt8} {N : Nat} {t : St} (M : Nat → Nat) (tries a : Nat) (h : Good L N t) (hk : t.kept ≤ a) : Valid L a (search L M tries t a).1 ∧ Good L N (search L M tries t a).2 ∧ (search L M tries t a).2.kept ≤ a := by
  unfold search
  split
  · rename_i ha
    have hg := h.keepTo M a
    have hkk := keepTo_kept M a t hk
    have := hg.nb (M a)
    exact ⟨Valid.srch _ hg.ob (by omega) _ _ _ (by omega) (Valid.none L a), hg, by simp only; omega⟩
  · exact ⟨Valid.none L a, h, hk⟩
theorem Valid.le {L : List UInt8} {a : Nat} {p : Nat × Nat} (h : Valid L a p) : p.1 ≤ L.length - a ∧ p.1 ≤ 258 := by
  rcases h with ⟨h, _⟩ | ⟨_, h1, h2, _⟩ <;> omega
/-- What a level answers: a match, or none; the next place is kept at most where a match has it behind it. -/
theorem look_valid {L : List UInt8} {N : Nat} {t : St} (M : Nat → Nat) (lvl a : Nat) (h : Good L N t) (hk : t.kept ≤ a) :
    Valid L a (look L M lvl t a).1 ∧ Good L N (look L M lvl t a).2 ∧ (look L M lvl t a).2.kept ≤ a + 1 := by
  unfold look
  split
  · exact ⟨Valid.none L a, h, by simp only; omega⟩
  · split
    · obtain ⟨h1, h2, h3⟩ := search_valid M 1 a h hk
      exact ⟨h1, h2, by omega⟩
    · split
      · obtain ⟨h1, h2, h3⟩ := search_valid M 8 a h hk
        exact ⟨h1, h2, by omega⟩
      · obtain ⟨h1, h2, h3⟩ := search_valid M 128 a h hk
        obtain ⟨h4, h5, h6⟩ := search_valid M 128 (a + 1) h2 (by omega)
        unfold patient
        simp only
        split
        · exact ⟨h1, h2, by omega⟩
        · split
          · exact ⟨Valid.none L a, h5, h6⟩
          · exact ⟨h1, h5, h6⟩

theorem copy_take {L : List UInt8} {a d : Nat} (hd : 1 ≤ d) (hda : d ≤ a) : ∀ n, a + n ≤ L.length → (∀ k, k < n → L.getD (a - d + k) 0 = L.getD (a + k) 0) → copyF d n (L.take a) = L.take (a + n)
  | 0, _, _ => rfl
  | n + 1, hl, h => by
    have ih := copy_take hd hda n (by omega) fun k hk => h k (by omega)
    rw [copyF_snoc, ih]
    have e1 : (L.take (a + n)).length = a + n := by simp; omega
    rw [e1]
    have e2 : (L.take (a + n)).getD (a + n - d) 0 = L.getD (a + n) 0 := by
      rw [← h n (by omega), List.getD_eq_getElem?_getD, List.getElem?_take, if_pos (by omega), ← List.getD_eq_getElem?_getD, show a + n - d = a - d + n from by omega]
    rw [e2, show a + (n + 1) = (a + n) + 1 from rfl, List.take_add_one, List.getD_eq_getElem?_getD, List.getElem?_eq_getElem (by omega)]
    rfl
theorem take_snoc {L : List UInt8} {a : Nat} (h : a < L.length) : L.take a ++ [L.getD a 0] = L.take (a + 1) := by
  rw [List.take_add_one, List.getD_eq_getElem?_getD, List.getElem?_eq_getElem h]
  rfl

/-- Tokens of a text say it. -/
theorem toks_say {L : List UInt8} {N : Nat} (M : Nat → Nat) (lvl : Nat) : ∀ (k : Nat) (t : St) (a : Nat), L.length ≤ a + k → a ≤ L.length → Good L N t → t.kept ≤ a →
    expandF L.length (toks L M lvl k t a) (L.take a) = (L, 0) ∧ (toks L M lvl k t a).length ≤ L.length - a ∧ (lvl = 0 → (toks L M lvl k t a).length = L.length - a)
  | 0, t, a, h1, h2, _, _ => by
    rw [toks, expandF, List.take_of_length_le (by omega)]
    exact ⟨rfl, by simp, fun _ => by simp; omega⟩
  | k + 1, t, a, h1, h2, hg, hk => by
    rw [toks]
    obtain ⟨v1, v2, v3⟩ := look_valid M lvl a hg hk
    by_cases ha : a < L.length
    · rw [if_pos ha]
      have el : (L.take a).length = a := by simp; omega
      by_cases h0 : (look L M lvl t a).1.1 = 0
      · rw [if_pos h0]
        obtain ⟨i1, i2, i3⟩ := toks_say M lvl k (look L M lvl t a).2 (a + 1) (by omega) (by omega) v2 (by omega)
        refine ⟨?_, by simp only [List.length_cons]; omega, fun hl => by have := i3 hl; simp only [List.length_cons]; omega⟩
        rw [expandF, if_neg (by simp [mayB]), if_neg (by simp only; omega), if_neg (by simp only [sayN, el]; simp; omega)]
        rw [show layF ⟨L.getD a 0, 0, 0⟩ (L.take a) = L.take (a + 1) from by unfold layF; rw [if_pos rfl]; exact take_snoc ha]
        exact i1
      · rw [if_neg h0]
        rcases v1 with ⟨h, _⟩ | ⟨c1, c2, c3, c4, c5, c6, c7⟩
        · exact absurd h h0
        · obtain ⟨i1, i2, i3⟩ := toks_say M lvl k (look L M lvl t a).2 (a + (look L M lvl t a).1.1) (by omega) (by omega) v2 (by omega)
          obtain ⟨l, hl⟩ : ∃ l, (look L M lvl t a).1.1 = l := ⟨_, rfl⟩
          obtain ⟨b, hb⟩ : ∃ b, (look L M lvl t a).1.2 = b := ⟨_, rfl⟩
          rw [hl] at h0 c1 c2 c3 c7 i1 i2 i3 ⊢
          rw [hb] at c4 c5 c6 c7 ⊢
          have hn : ¬ (l : Int) = 0 := by omega
          refine ⟨?_, by simp only [List.length_cons]; omega, fun hl0 => ?_⟩
          · have hmay : mayB ⟨0, l, b⟩ = true := by
              unfold mayB
              rw [if_neg hn]
              simp [isLen, isDist]
              omega
            rw [expandF, if_neg (by rw [hmay]; decide), if_neg (by simp only [el]; omega), if_neg (by simp only [sayN, el, if_neg hn]; omega)]
            rw [show layF ⟨0, l, b⟩ (L.take a) = L.take (a + l) from by
              unfold layF
              rw [if_neg hn]
              exact copy_take c4 c6 l c3 c7]
            exact i1
          · subst hl0
            rw [look, if_pos rfl] at hl
            exact absurd hl.symm h0
    · rw [if_neg ha, expandF, List.take_of_length_le (by omega)]
      exact ⟨rfl, by simp, fun _ => by simp; omega⟩

/-- How many bytes tokens say that may be. -/
def sumT : List Tk → Int
  | [] => 0
  | t :: r => max 1 (min t.n 258) + sumT r
theorem toks_sum {L : List UInt8} {N : Nat} (M : Nat → Nat) (lvl : Nat) : ∀ (k : Nat) (t : St) (a : Nat), L.length ≤ a + k → a ≤ L.length → Good L N t → t.kept ≤ a →
    sumT (toks L M lvl k t a) = (L.length - a : Nat)
  | 0, t, a, h1, h2, _, _ => by
    rw [toks, sumT]
    omega
  | k + 1, t, a, h1, h2, hg, hk => by
    rw [toks]
    obtain ⟨v1, v2, v3⟩ := look_valid M lvl a hg hk
    by_cases ha : a < L.length
    · rw [if_pos ha]
      by_cases h0 : (look L M lvl t a).1.1 = 0
      · rw [if_pos h0]
        have i1 := toks_sum M lvl k (look L M lvl t a).2 (a + 1) (by omega) (by omega) v2 (by omega)
        rw [sumT, i1]
        simp only
        omega
      · rw [if_neg h0]
        rcases v1 with ⟨h, _⟩ | ⟨c1, c2, c3, _⟩
        · exact absurd h h0
        · have i1 := toks_sum M lvl k (look L M lvl t a).2 (a + (look L M lvl t a).1.1) (by omega) (by omega) v2 (by omega)
          rw [sumT, i1]
          simp only
          omega
    · rw [if_neg ha, sumT]
      omega

/-- A text of one byte. -/
structure One (L : List UInt8) (M : Nat → Nat) (m0 : Nat) (t : St) : Prop where
  same : ∀ i j : Nat, i < L.length → j < L.length → L.getD i 0 = L.getD j 0
  mark : ∀ i : Nat, i + 3 ≤ L.length → M i = m0
  last : t.nn.getD m0 0 = t.kept
  lt : m0 < t.nn.length
theorem One.keepN {L : List UInt8} {M : Nat → Nat} {m0 : Nat} : ∀ (n : Nat) (t : St), One L M m0 t → t.kept + n + 2 ≤ L.length → One L M m0 (keepN M n t)
  | 0, _, h, _ => h
  | n + 1, t, h, hl => by
    refine One.keepN n _ ⟨h.same, h.mark, ?_, by simpa [keep1] using h.lt⟩ (by simp only [keep1]; omega)
    simp only [keep1]
    rw [h.mark t.kept (by omega), getD_set, if_pos ⟨rfl, h.lt⟩]
theorem srch_one {L : List UInt8} {a : Nat} (hs : ∀ i j : Nat, i < L.length → j < L.length → L.getD i 0 = L.getD j 0) (oo : List Nat) (k : Nat) (h1 : 1 ≤ a) (h3 : a + 3 ≤ L.length) :
    srch L a (mostAt L a) oo (k + 1) a (0, 0) = (mostAt L a, 1) := by
  have hm : 3 ≤ mostAt L a := by unfold mostAt; omega
  obtain ⟨b, rfl⟩ : ∃ b, a = b + 1 := ⟨a - 1, by omega⟩
  have hr : runN L (b + 1) (b + 1 - 1) (mostAt L (b + 1)) = mostAt L (b + 1) := runN_all _ fun k hk => hs _ _ (by unfold mostAt at hk; omega) (by unfold mostAt at hk; omega)
  rw [srch, if_neg (by simp only; omega), show b + 1 - b = 1 from by omega, pstep, hr, if_pos ⟨hm, by simp only; omega⟩]
  cases k with
  | zero => rw [srch]
  | succ k =>
    cases hf : oo.getD b 0 with
    | zero => rw [srch]
    | succ f => rw [srch, if_pos (.inr rfl)]
theorem search_one {L : List UInt8} {M : Nat → Nat} {m0 : Nat} {t : St} (h : One L M m0 t) (k a : Nat) (hk : t.kept ≤ a) (h3 : a + 3 ≤ L.length) :
    (search L M (k + 1) t a).1 = (if a = 0 then (0, 0) else (mostAt L a, 1)) ∧ One L M m0 (search L M (k + 1) t a).2 ∧ (search L M (k + 1) t a).2.kept = a := by
  unfold search
  rw [if_pos h3]
  have ho : One L M m0 (keepTo M a t) := h.keepN _ _ (by omega)
  have hkk := keepTo_kept M a t hk
  refine ⟨?_, ho, hkk⟩
  simp only
  rw [h.mark a h3, ho.last, hkk]
  split
  · rename_i h0
    rw [h0]
    rfl
  · exact srch_one h.same _ _ (by omega) h3
theorem look_one {L : List UInt8} {N : Nat} {M : Nat → Nat} {m0 : Nat} {t : St} (h : One L M m0 t) (hg : Good L N t) (lvl a : Nat) (hl : 1 ≤ lvl) (hk : t.kept ≤ a) (h3 : a + 3 ≤ L.length) :
    (look L M lvl t a).1 = (if a = 0 then (0, 0) else (mostAt L a, 1)) ∧ One L M m0 (look L M lvl t a).2 := by
  have hm : mostAt L a = min 258 (L.length - a) := rfl
  unfold look
  rw [if_neg (by omega)]
  split
  · obtain ⟨h1, h2, _⟩ := search_one h 0 a hk h3
    exact ⟨h1, h2⟩
  · split
    · obtain ⟨h1, h2, _⟩ := search_one h 7 a hk h3
      exact ⟨h1, h2⟩
    · obtain ⟨h1, h2, h4⟩ := search_one h 127 a hk h3
      have hg2 := (search_valid M 128 a hg hk).2.1
      have hv2 := (search_valid M 128 (a + 1) hg2 (by rw [show 128 = 127 + 1 from rfl, h4]; omega)).1.le
      unfold patient
      simp only
      rw [show 128 = 127 + 1 from rfl] at hg2 hv2 ⊢
      rw [h1]
      by_cases h0 : a = 0
      · rw [if_pos h0, if_pos (.inl rfl), h1, if_pos h0]
        exact ⟨rfl, h2⟩
      · rw [if_neg h0]
        simp only
        by_cases h32 : mostAt L a = 0 ∨ 32 ≤ mostAt L a
        · rw [if_pos h32, h1, if_neg h0]
          exact ⟨rfl, h2⟩
        · rw [if_neg h32, if_neg (by omega)]
          refine ⟨rfl, ?_⟩
          by_cases h5 : a + 1 + 3 ≤ L.length
          · exact (search_one h2 127 (a + 1) (by omega) h5).2.1
          · unfold search
            rw [if_neg h5]
            exact h2
theorem toks_short {L : List UInt8} {N : Nat} (M : Nat → Nat) (lvl : Nat) (k : Nat) (t : St) (a : Nat) (h1 : L.length ≤ a + k) (h2 : a ≤ L.length) (hg : Good L N t) (hk : t.kept ≤ a) : (toks L M lvl k t a).length ≤ L.length - a :=
  (toks_say M lvl k t a h1 h2 hg hk).2.1
/-- From the second byte on. -/
theorem toks_one {L : List UInt8} {N : Nat} {M : Nat → Nat} {m0 : Nat} (lvl : Nat) (hl : 1 ≤ lvl) : ∀ (k : Nat) (t : St) (a : Nat), One L M m0 t → L.length ≤ a + k → a ≤ L.length → 1 ≤ a → Good L N t → t.kept ≤ a →
    (toks L M lvl k t a).length ≤ 2 + (L.length - a) / 258
  | 0, t, a, _, _, _, _, _, _ => by rw [toks]; simp
  | k + 1, t, a, ho, h1, h2, ha1, hg, hk => by
    by_cases h3 : a + 3 ≤ L.length
    · obtain ⟨v1, v2, v3⟩ := look_valid M lvl a hg hk
      obtain ⟨o1, o2⟩ := look_one ho hg lvl a hl hk h3
      rw [if_neg (by omega)] at o1
      have hm : mostAt L a = min 258 (L.length - a) := rfl
      have e1 : (look L M lvl t a).1.1 = mostAt L a := by rw [o1]
      rw [toks, if_pos (by omega), if_neg (by rw [e1]; omega), List.length_cons, e1]
      have ih := toks_one lvl hl k (look L M lvl t a).2 (a + mostAt L a) o2 (by omega) (by omega) (by omega) v2 (by omega)
      rcases Nat.lt_or_ge (L.length - a) 258 with h4 | h4
      · have h5 := toks_short M lvl k (look L M lvl t a).2 (a + mostAt L a) (by omega) (by omega) v2 (by omega)
        omega
      · have e2 : L.length - (a + mostAt L a) = L.length - a - 258 := by omega
        rw [e2] at ih
        omega
    · have := toks_short M lvl (k + 1) t a h1 h2 hg hk
      omega
theorem toks_few {L : List UInt8} {N : Nat} {M : Nat → Nat} {m0 : Nat} (lvl : Nat) (hl : 1 ≤ lvl) (t : St) (k : Nat) (ho : One L M m0 t) (h1 : L.length ≤ k) (hg : Good L N t) (hk : t.kept = 0) :
    (toks L M lvl k t 0).length ≤ 4 + L.length / 258 := by
  by_cases h3 : 0 + 3 ≤ L.length
  · cases k with
    | zero => omega
    | succ k =>
      obtain ⟨v1, v2, v3⟩ := look_valid M lvl 0 hg (by omega)
      obtain ⟨o1, o2⟩ := look_one ho hg lvl 0 hl (by omega) h3
      rw [if_pos rfl] at o1
      rw [toks, if_pos (by omega), if_pos (by rw [o1]), List.length_cons]
      have := toks_one lvl hl k (look L M lvl t 0).2 (0 + 1) o2 (by omega) (by omega) (by omega) v2 (by omega)
      omega
  · have := toks_short M lvl k t 0 (by omega) (by omega) hg (by omega)
    omega
end Go.Proofs.Ytgkplmjbjbikmaa
