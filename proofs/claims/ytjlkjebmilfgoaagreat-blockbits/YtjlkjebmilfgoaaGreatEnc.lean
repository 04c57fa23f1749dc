/- Layer 8 in plain words: tokens by the plain code, and what is read of them. -/
import Derived.Test.YtjlkjebmilfgoaaGreatKW
import Derived.Test.YtjlkjebmilfgoaaGreatBound
import Derived.Test.YtjlkjebmilfgoaaGreatFixC
/- Layer 8 in plain words: tokens, written by the plain code, and what is read of them, whole or cut. -/
namespace Go.Proofs.YtjlkjebmilfgoaaGreat

/-- The bits x stand at a, as far as there are any. -/
def Stand (B : List UInt8) (a : Nat) (x : List UInt8) : Prop := ∀ i, i < x.length → a + i < B.length → bt B (a + i) = bt x i
theorem Stand.left {B x y : List UInt8} {a : Nat} (h : Stand B a (x ++ y)) : Stand B a x := fun i hi hb => by
  rw [h i (by rw [List.length_append]; omega) hb]
  unfold bt
  rw [List.getD_eq_getElem?_getD, List.getD_eq_getElem?_getD, List.getElem?_append_left hi]
theorem Stand.right {B x y : List UInt8} {a : Nat} (h : Stand B a (x ++ y)) : Stand B (a + x.length) y := fun i hi hb => by
  have := h (x.length + i) (by rw [List.length_append]; omega) (by omega)
  rw [show a + x.length + i = a + (x.length + i) from by omega, this]
  unfold bt
  rw [List.getD_eq_getElem?_getD, List.getD_eq_getElem?_getD, List.getElem?_append_right (by omega), Nat.add_sub_cancel_left]
theorem Stand.self (p x q : List UInt8) : Stand (p ++ x ++ q) p.length x := fun i hi _ => by
  unfold bt
  rw [List.getD_eq_getElem?_getD, List.getD_eq_getElem?_getD, List.append_assoc, List.getElem?_append_right (by omega), Nat.add_sub_cancel_left, List.getElem?_append_left hi]
theorem Stand.take {B x : List UInt8} {a m : Nat} (h : Stand B a x) : Stand (B.take m) a x := fun i hi hb => by
  rw [List.length_take] at hb
  rw [← h i hi (by omega)]
  unfold bt
  rw [List.getD_eq_getElem?_getD, List.getD_eq_getElem?_getD, List.getElem?_take, if_pos (by omega)]

/-- Numbers that stand. -/
theorem nm_stand (B : List UInt8) (hB : Bits B) : ∀ (x : List UInt8) (a : Nat), Bits x → Stand B a x → a + x.length ≤ B.length → nm B a x.length = le2 x
  | [], a, _, _, _ => by rw [List.length_nil]; unfold nm; rw [Nat.pow_zero, Nat.mod_one]; rfl
  | b :: r, a, hx, h, hl => by
    have h0 := h 0 (by simp) (by simp at hl; omega)
    have hr := nm_stand B hB r (a + 1) (fun y hy => hx y (List.mem_cons_of_mem _ hy)) (by
      have := Stand.right (x := [b]) (y := r) h
      simpa using this) (by simp at hl; omega)
    have e : le2 B / 2 ^ a / 2 = le2 B / 2 ^ (a + 1) := by rw [Nat.div_div_eq_div_mul, ← Nat.pow_succ]
    have hbt := bt_le2 B hB a
    rw [Nat.add_zero] at h0
    have h1 : bt (b :: r) 0 = b.toNat := rfl
    rw [h1] at h0
    rw [List.length_cons, le2, ← hr]
    unfold nm
    rw [Nat.pow_succ, Nat.mul_comm (2 ^ r.length) 2, Nat.mod_mul, e, ← hbt, h0]

/-- A code that is cut. -/
theorem scan_cut (l : List Nat) (b : List UInt8) (s a : Nat) (h : Has l s) (hb : ∀ i, i < ln l s → a + i < b.length → bt b (a + i) = cd l s / 2 ^ (ln l s - 1 - i) % 2) (ha : b.length < a + ln l s) :
    ∀ (d k f : Nat), k + d = ln l s → 1 ≤ k → d < f → (scan l b f k (cd l s / 2 ^ (d + 1)) (a + (k - 1))).2.2 = 3
  | d, k, 0, _, _, h3 => by omega
  | 0, k, f + 1, h1, h2, h3 => by
    rw [scan_step, if_pos (by omega)]
  | d + 1, k, f + 1, h1, h2, h3 => by
    rw [scan_step]
    by_cases hp : b.length ≤ a + (k - 1)
    · rw [if_pos hp]
    · have hb1 := hb (k - 1) (by omega) (by omega)
      rw [show ln l s - 1 - (k - 1) = d + 1 by omega] at hb1
      have e1 : 2 * (cd l s / 2 ^ (d + 1 + 1)) + bt b (a + (k - 1)) = cd l s / 2 ^ (d + 1) := by
        rw [hb1, Nat.pow_succ 2 (d + 1), ← Nat.div_div_eq_div_mul]
        omega
      have h4 := fi_ge l k (ln l s) (by omega)
      have h5 := cd_has l s h
      have h6 : fi l k + cn l k ≤ cd l s / 2 ^ (d + 1) := by
        rw [Nat.le_div_iff_mul_le (Nat.pow_pos (by decide)), show d + 1 = ln l s - k by omega]
        omega
      rw [if_neg hp, e1, if_neg (by omega), show a + (k - 1) + 1 = a + (k + 1 - 1) by omega]
      exact scan_cut l b s a h hb ha d (k + 1) f (by omega) (by omega) (by omega)

theorem rdp_stand (l : List Nat) (B : List UInt8) (s a : Nat) (h : Has l s) (hl : Low l) (hf : fu l 16 ≤ 32768) (hs : Stand B a (code l s)) (ha : a + ln l s ≤ B.length) : rdp l B a = (s, a + ln l s, 0) :=
  rdp_code l B s a h hl hf (fun i hi => by
    rw [hs i (by rw [code_length]; exact hi) (by omega)]
    exact hb_at _ _ i hi) ha
theorem rdp_cut (l : List Nat) (B : List UInt8) (s a : Nat) (h : Has l s) (hl : Low l) (hf : fu l 16 ≤ 32768) (hs : Stand B a (code l s)) (ha : B.length < a + ln l s) : (rdp l B a).2.2 = 3 := by
  have h1 := has_lg l s h hl
  have h2 := h.2
  have h3 := cd_lt l s h hl hf
  have := scan_cut l B s a h (fun i hi hlt => by
    rw [hs i (by rw [code_length]; exact hi) hlt]
    exact hb_at _ _ i hi) ha (ln l s - 1) 1 (lg l) (by omega) (by omega) (by omega)
  rw [show ln l s - 1 + 1 = ln l s by omega, Nat.div_eq_of_lt h3] at this
  exact this

theorem fixA_has (s : Nat) (h : s < 288) : Has fixA s := by
  have : ∀ t : Fin 288, 0 < ln fixA t.val := by decide +kernel
  exact ⟨by rw [fixA_length]; exact h, this ⟨s, h⟩⟩
theorem fixB_has (s : Nat) (h : s < 32) : Has fixB s := by
  have : ∀ t : Fin 32, 0 < ln fixB t.val := by decide +kernel
  exact ⟨h, this ⟨s, h⟩⟩
theorem fu_fixA : fu fixA 16 ≤ 32768 := by decide +kernel
theorem fu_fixB : fu fixB 16 ≤ 32768 := by decide +kernel

/-- The bits of a token. -/
inductive TokIs : Tk → List UInt8 → Prop
  | lit (b : UInt8) : TokIs ⟨b, 0, 0⟩ (code fixA b.toNat)
  | far (b : UInt8) (n k : Int) (y v m d v2 m2 : Nat) (hl : LenIs n (y : Nat) (v : Nat) (m : Nat) true) (hd : DistIs k (d : Nat) (v2 : Nat) (m2 : Nat) true) : TokIs ⟨b, n, k⟩ (code fixA y ++ (nb m v ++ (code fixB d ++ nb m2 v2)))

/-- What a length's symbol says, where its bits stand, whole or cut. -/
theorem mLen_stand (B : List UInt8) (hB : Bits B) (n : Int) (y v m a : Nat) (hl : LenIs n (y : Nat) (v : Nat) (m : Nat) true) (hs : Stand B a (nb m v)) : 257 ≤ y ∧ y ≤ 285 ∧ 3 ≤ n ∧ (a + v ≤ B.length → mLen B y a = (0, a + v, n.toNat)) ∧ (B.length < a + v → (mLen B y a).1 = 3) := by
  generalize hy : ((y : Nat) : Int) = yi at hl
  generalize hv : ((v : Nat) : Int) = vi at hl
  generalize hm : ((m : Nat) : Int) = mi at hl
  have key : 257 ≤ y ∧ y ≤ 285 ∧ lw y = v ∧ m < 2 ^ v ∧ n = (lv y + m : Nat) := by
    cases hl with
    | last =>
      obtain rfl : y = 285 := by omega
      obtain rfl : v = 0 := by omega
      obtain rfl : m = 0 := by omega
      exact ⟨by decide, by decide, rfl, by decide, rfl⟩
    | row s m' hs' hm' hh =>
      obtain rfl : y = 257 + s := by omega
      obtain rfl : v = lb s := by omega
      obtain rfl : m = m' := by omega
      refine ⟨by omega, by omega, ?_, hm', ?_⟩
      · unfold lw
        rw [if_neg (by omega), Nat.add_sub_cancel_left]
      · unfold lv
        rw [if_neg (by omega), Nat.add_sub_cancel_left]
  obtain ⟨k1, k2, k3, k4, rfl⟩ := key
  have hlv : 3 ≤ lv y := by
    have : ∀ t : Fin 29, 3 ≤ lv (257 + t.val) := by decide +kernel
    have h2 := this ⟨y - 257, by omega⟩
    rw [show 257 + (y - 257) = y from by omega] at h2
    exact h2
  refine ⟨k1, k2, by omega, fun h => ?_, fun h => ?_⟩
  · have hn := nm_stand B hB (nb m v) a (nb_bits m v) hs (by rw [nb_length]; exact h)
    rw [nb_length, le2_nb, Nat.mod_eq_of_lt k4] at hn
    unfold mLen
    rw [if_neg (by omega), k3, if_neg (by omega), hn]
    simp
    omega
  · unfold mLen
    rw [if_neg (by omega), k3, if_pos h]
theorem mDist_stand (B : List UInt8) (hB : Bits B) (k : Int) (d v m a : Nat) (hd : DistIs k (d : Nat) (v : Nat) (m : Nat) true) (hs : Stand B a (code fixB d ++ nb m v)) : (a + ln fixB d + v ≤ B.length → mDist B fixB a = (0, a + ln fixB d + v, k.toNat)) ∧ (B.length < a + ln fixB d + v → (mDist B fixB a).1 = 3) := by
  generalize hy : ((d : Nat) : Int) = yi at hd
  generalize hv : ((v : Nat) : Int) = vi at hd
  generalize hm : ((m : Nat) : Int) = mi at hd
  have key : d < 30 ∧ db d = v ∧ m < 2 ^ v ∧ k = (df d + m : Nat) := by
    cases hd with
    | row s m' hs' hm' =>
      obtain rfl : d = s := by omega
      obtain rfl : v = db d := by omega
      obtain rfl : m = m' := by omega
      exact ⟨hs', rfl, hm', rfl⟩
  obtain ⟨k1, k3, k4, rfl⟩ := key
  have h1 := hs.left
  have h2 := hs.right
  rw [code_length] at h2
  have hh := fixB_has d (by omega)
  refine ⟨fun h => ?_, fun h => ?_⟩
  · have hr := rdp_stand fixB B d a hh lens_fixB.low fu_fixB h1 (by omega)
    have hn := nm_stand B hB (nb m v) (a + ln fixB d) (nb_bits m v) h2 (by rw [nb_length]; exact h)
    rw [nb_length, le2_nb, Nat.mod_eq_of_lt k4] at hn
    unfold mDist
    rw [hr]
    simp only
    rw [if_neg (by simp), if_neg (by omega), k3, if_neg (by omega), hn]
    simp
    omega
  · by_cases hc : B.length < a + ln fixB d
    · have hr := rdp_cut fixB B d a hh lens_fixB.low fu_fixB h1 hc
      unfold mDist
      rw [if_pos (by rw [hr]; decide)]
      exact hr
    · have hr := rdp_stand fixB B d a hh lens_fixB.low fu_fixB h1 (by omega)
      unfold mDist
      rw [hr]
      simp only
      rw [if_neg (by simp), if_neg (by omega), k3, if_pos h]

theorem ofNat_toNat (b : UInt8) : UInt8.ofNat b.toNat = b := by simp
theorem ln_fixA (s : Nat) (h : s < 288) : 1 ≤ ln fixA s := (fixA_has s h).2
theorem TokIs.pos {t : Tk} {x : List UInt8} (h : TokIs t x) : 1 ≤ x.length := by
  cases h with
  | lit b => rw [code_length]; exact ln_fixA _ (by have := b.toNat_lt; omega)
  | far b n k y v m d v2 m2 hl hd =>
    have := mLen_stand [] (by intro x hx; cases hx) n y v m 0 hl (fun i _ h => by simp at h)
    rw [List.length_append, code_length]
    have := ln_fixA y (by omega)
    omega

set_option maxRecDepth 50000 in
set_option maxHeartbeats 1000000 in
/-- One token read: whole, or cut. -/
theorem tok_step (B : List UInt8) (hB : Bits B) (most : Int) (f a : Nat) (out x : List UInt8) (t : Tk) (ht : TokIs t x) (hk : t.k ≤ out.length) (hs : Stand B a x) :
    (a + x.length ≤ B.length → (most < out.length + sayN t → (mCoded B fixA fixB most (f + 1) a out).1 = 7) ∧ (¬ most < out.length + sayN t → mCoded B fixA fixB most (f + 1) a out = mCoded B fixA fixB most f (a + x.length) (layF t out))) ∧
    (B.length < a + x.length → (mCoded B fixA fixB most (f + 1) a out).1 = 3) := by
  cases ht with
  | lit b =>
    have hb := b.toNat_lt
    have hh := fixA_has b.toNat (by omega)
    have hsay : sayN ⟨b, 0, 0⟩ = 1 := rfl
    have hlay : layF ⟨b, 0, 0⟩ out = out ++ [b] := rfl
    rw [code_length, hsay, hlay]
    refine ⟨fun h => ?_, fun h => ?_⟩
    · have hr := rdp_stand fixA B b.toNat a hh lens_fixA.low fu_fixA hs h
      rw [mCoded_step, hr]
      simp only
      rw [if_neg (by simp), if_neg (by omega), if_pos (by omega), ofNat_toNat]
      refine ⟨fun hm => by rw [if_pos hm], fun hm => by rw [if_neg hm]⟩
    · have hr := rdp_cut fixA B b.toNat a hh lens_fixA.low fu_fixA hs h
      rw [mCoded_step, if_pos (by rw [hr]; decide)]
      exact hr
  | far b n k y v m d v2 m2 hl hd =>
    have s1 := hs.left
    have s2 := hs.right
    rw [code_length] at s2
    have s21 := s2.left
    have s3 := s2.right
    rw [nb_length] at s3
    obtain ⟨q1, q2, q0, q3, q4⟩ := mLen_stand B hB n y v m (a + ln fixA y) hl s21
    obtain ⟨r1, r2⟩ := mDist_stand B hB k d v2 m2 (a + ln fixA y + v) hd s3
    have hh := fixA_has y (by omega)
    have hn0 : ¬ n = 0 := by omega
    have hsay : sayN ⟨b, n, k⟩ = n := if_neg hn0
    have hlay : layF ⟨b, n, k⟩ out = copyF k.toNat n.toNat out := if_neg hn0
    have hlen : (code fixA y ++ (nb m v ++ (code fixB d ++ nb m2 v2))).length = ln fixA y + v + ln fixB d + v2 := by
      rw [List.length_append, List.length_append, List.length_append, code_length, code_length, nb_length, nb_length]
      omega
    simp only at hk
    rw [hlen, hsay, hlay]
    refine ⟨fun h => ?_, fun h => ?_⟩
    · have hr := rdp_stand fixA B y a hh lens_fixA.low fu_fixA s1 (by omega)
      have e3 := q3 (by omega)
      have e4 := r1 (by omega)
      have hbk : mBack B fixB most y (a + ln fixA y) out = if most < out.length + n then (7, a + ln fixA y, out) else (0, a + ln fixA y + v + ln fixB d + v2, copyF k.toNat n.toNat out) := by
        unfold mBack
        rw [e3]
        simp only
        rw [if_neg (by simp), e4]
        simp only
        rw [if_neg (by simp), if_neg (by omega)]
        by_cases hm : most < out.length + n
        · rw [if_pos hm, if_pos (by omega)]
        · rw [if_neg hm, if_neg (by omega)]
      rw [mCoded_step, hr]
      simp only
      rw [if_neg (by simp), if_neg (by omega), if_neg (by omega), hbk]
      refine ⟨fun hm => ?_, fun hm => ?_⟩
      · rw [if_pos hm]
        simp
      · rw [if_neg hm]
        simp only
        rw [if_neg (by simp)]
        congr 1
        omega
    · by_cases c1 : B.length < a + ln fixA y
      · have hr := rdp_cut fixA B y a hh lens_fixA.low fu_fixA s1 c1
        rw [mCoded_step, if_pos (by rw [hr]; decide)]
        exact hr
      · have hr := rdp_stand fixA B y a hh lens_fixA.low fu_fixA s1 (by omega)
        have hbk : (mBack B fixB most y (a + ln fixA y) out).1 = 3 := by
          unfold mBack
          by_cases c2 : B.length < a + ln fixA y + v
          · have e := q4 c2
            rw [if_pos (by rw [e]; decide)]
            exact e
          · have e3 := q3 (by omega)
            have e4 := r2 (by omega)
            rw [e3]
            simp only
            rw [if_neg (by simp), if_pos (by rw [e4]; decide)]
            exact e4
        rw [mCoded_step, hr]
        simp only
        rw [if_neg (by simp), if_neg (by omega), if_neg (by omega), if_pos (by rw [hbk]; decide)]
        exact hbk

/-- The bits of tokens, one behind the other. -/
inductive EncIs : List Tk → List UInt8 → Prop
  | nil : EncIs [] []
  | cons (t : Tk) (l : List Tk) (x y : List UInt8) (h : TokIs t x) (r : EncIs l y) : EncIs (t :: l) (x ++ y)

theorem expandF_cons (M : Int) (t : Tk) (l : List Tk) (out want : List UInt8) (h : expandF M (t :: l) out = (want, 0)) : mayB t = true ∧ t.k ≤ out.length ∧ expandF M l (layF t out) = (want, 0) := by
  rw [expandF] at h
  split at h
  · cases h
  · split at h
    · cases h
    · split at h
      · cases h
      · rename_i h1 h2 h3
        exact ⟨by simpa using h1, by omega, h⟩
theorem expandF_le (M : Int) : ∀ (l : List Tk) (out want : List UInt8), expandF M l out = (want, 0) → out.length ≤ want.length
  | [], out, want, h => by
    rw [expandF] at h
    obtain ⟨rfl, _⟩ : out = want ∧ True := by simpa using h
    exact Nat.le_refl _
  | t :: l, out, want, h => by
    obtain ⟨h1, _, h3⟩ := expandF_cons M t l out want h
    have := expandF_le M l (layF t out) want h3
    have h4 := lay_length t out h1
    have h5 := say_le t h1
    omega
theorem ln256 : ln fixA 256 = 7 := by decide +kernel

set_option maxRecDepth 50000 in
theorem toks_whole (B : List UInt8) (hB : Bits B) (most M : Int) : ∀ (l : List Tk) (x out want : List UInt8) (f a : Nat), EncIs l x → expandF M l out = (want, 0) → Stand B a (x ++ code fixA 256) → a + x.length + 7 ≤ B.length → B.length < a + f →
    ((want.length : Int) ≤ most → mCoded B fixA fixB most f a out = (0, a + x.length + 7, want)) ∧ ((out.length : Int) ≤ most → most < want.length → (mCoded B fixA fixB most f a out).1 = 7)
  | _, _, _, _, 0, a, _, _, _, h1, h2 => by omega
  | [], x, out, want, f + 1, a, he, hx, hs, h1, h2 => by
    cases he
    rw [expandF] at hx
    obtain ⟨rfl, _⟩ : out = want ∧ True := by simpa using hx
    have hr := rdp_stand fixA B 256 a (fixA_has 256 (by decide)) lens_fixA.low fu_fixA hs (by rw [ln256]; simpa using h1)
    refine ⟨fun _ => ?_, fun h3 h4 => by omega⟩
    rw [mCoded_step, hr]
    simp only
    rw [if_neg (by simp), if_pos trivial, ln256]
    simp
  | t :: l, x, out, want, f + 1, a, he, hx, hs, h1, h2 => by
    cases he with
    | cons _ _ x1 y1 ht hr =>
      obtain ⟨k1, k2, k3⟩ := expandF_cons M t l out want hx
      rw [List.append_assoc] at hs
      have hp := ht.pos
      rw [List.length_append] at h1 ⊢
      obtain ⟨g1, _⟩ := tok_step B hB most f a out x1 t ht k2 hs.left
      obtain ⟨g2, g3⟩ := g1 (by omega)
      have hll := lay_length t out k1
      have hle := expandF_le M l (layF t out) want k3
      obtain ⟨i1, i2⟩ := toks_whole B hB most M l y1 (layF t out) want f (a + x1.length) hr k3 hs.right (by omega) (by omega)
      refine ⟨fun h => ?_, fun h h4 => ?_⟩
      · rw [g3 (by omega), i1 h]
        congr 1
        congr 1
        omega
      · by_cases hm : most < out.length + sayN t
        · exact g2 hm
        · rw [g3 hm]
          exact i2 (by omega) h4
set_option maxRecDepth 50000 in
theorem toks_cut (B : List UInt8) (hB : Bits B) (most M : Int) : ∀ (l : List Tk) (x out want : List UInt8) (f a : Nat), EncIs l x → expandF M l out = (want, 0) → Stand B a (x ++ code fixA 256) → B.length < a + x.length + 7 → a ≤ B.length → B.length < a + f → (want.length : Int) ≤ most → (mCoded B fixA fixB most f a out).1 = 3
  | _, _, _, _, 0, a, _, _, _, _, h1, h2, _ => by omega
  | [], x, out, want, f + 1, a, he, hx, hs, h1, _, h2, _ => by
    cases he
    have hr := rdp_cut fixA B 256 a (fixA_has 256 (by decide)) lens_fixA.low fu_fixA hs (by rw [ln256]; simpa using h1)
    rw [mCoded_step, if_pos (by rw [hr]; decide)]
    exact hr
  | t :: l, x, out, want, f + 1, a, he, hx, hs, h1, ha, h2, hw => by
    cases he with
    | cons _ _ x1 y1 ht hr =>
      obtain ⟨k1, k2, k3⟩ := expandF_cons M t l out want hx
      rw [List.append_assoc] at hs
      have hp := ht.pos
      rw [List.length_append] at h1
      obtain ⟨g1, g4⟩ := tok_step B hB most f a out x1 t ht k2 hs.left
      by_cases hc : B.length < a + x1.length
      · exact g4 hc
      · obtain ⟨_, g3⟩ := g1 (by omega)
        have hll := lay_length t out k1
        have hle := expandF_le M l (layF t out) want k3
        rw [g3 (by omega)]
        exact toks_cut B hB most M l y1 (layF t out) want f (a + x1.length) hr k3 hs.right (by omega) (by omega) (by omega) hw

set_option maxRecDepth 50000 in
/-- A stream of one last block of kind 1. -/
theorem one_block (B : List UInt8) (hB : Bits B) (most : Int) (x : List UInt8) (hs : Stand B 0 (nb 3 3 ++ x)) (h3 : 3 ≤ B.length) : (mStream B most).1 = (mCoded B fixA fixB most (B.length + 1) 3 []).1 ∧ ((mCoded B fixA fixB most (B.length + 1) 3 []).1 = 0 → mStream B most = (0, (mCoded B fixA fixB most (B.length + 1) 3 []).2.1, (mCoded B fixA fixB most (B.length + 1) 3 []).2.2, [1])) := by
  have e : nb 3 3 = [1] ++ [1, 0] := by decide +kernel
  rw [e, List.append_assoc] at hs
  have n1 := nm_stand B hB [1] 0 (by intro y hy; simp at hy; subst hy; decide) hs.left (by simp; omega)
  have n2 := nm_stand B hB [1, 0] (0 + 1) (by intro y hy; simp at hy; rcases hy with rfl | rfl <;> decide) hs.right.left (by simp; omega)
  have e1 : nm B 0 1 = 1 := n1
  have e2 : nm B (0 + 1) 2 = 1 := n2
  have eb : mBlock B most 1 (0 + 3) [] = mCoded B fixA fixB most (B.length + 1) 3 [] := rfl
  unfold mStream
  rw [mStr_step, if_neg (by omega), e1, e2, eb]
  by_cases h0 : (mCoded B fixA fixB most (B.length + 1) 3 []).1 = 0
  · rw [if_neg (by simpa using h0), if_pos rfl]
    exact ⟨h0.symm, fun _ => rfl⟩
  · rw [if_pos h0]
    exact ⟨rfl, fun h => absurd h h0⟩
set_option maxRecDepth 50000 in
theorem stream_whole (B : List UInt8) (hB : Bits B) (most M : Int) (l : List Tk) (x want : List UInt8) (he : EncIs l x) (hx : expandF M l [] = (want, 0)) (hs : Stand B 0 (nb 3 3 ++ (x ++ code fixA 256))) (hl : 3 + x.length + 7 ≤ B.length) :
    ((want.length : Int) ≤ most → mStream B most = (0, 3 + x.length + 7, want, [1])) ∧ (0 ≤ most → most < want.length → (mStream B most).1 = 7) := by
  obtain ⟨o1, o2⟩ := one_block B hB most _ hs (by omega)
  have hs2 : Stand B 3 (x ++ code fixA 256) := by
    have := hs.right
    rw [nb_length, Nat.zero_add] at this
    exact this
  obtain ⟨t1, t2⟩ := toks_whole B hB most M l x [] want (B.length + 1) 3 he hx hs2 hl (by omega)
  refine ⟨fun h => ?_, fun h0 h => by rw [o1]; exact t2 (by simpa using h0) h⟩
  have e := t1 h
  rw [o2 (by rw [e])]
  rw [e]
set_option maxRecDepth 50000 in
theorem stream_cut (B : List UInt8) (hB : Bits B) (most M : Int) (l : List Tk) (x want : List UInt8) (he : EncIs l x) (hx : expandF M l [] = (want, 0)) (hs : Stand B 0 (nb 3 3 ++ (x ++ code fixA 256))) (hl : B.length < 3 + x.length + 7) (hw : (want.length : Int) ≤ most) : (mStream B most).1 = 3 := by
  by_cases h3 : B.length < 3
  · unfold mStream
    rw [mStr_step, if_pos (by omega)]
  · obtain ⟨o1, _⟩ := one_block B hB most _ hs (by omega)
    have hs2 : Stand B 3 (x ++ code fixA 256) := by
      have := hs.right
      rw [nb_length, Nat.zero_add] at this
      exact this
    rw [o1]
    exact toks_cut B hB most M l x [] want (B.length + 1) 3 he hx hs2 hl (by omega) (by omega) hw
end Go.Proofs.YtjlkjebmilfgoaaGreat

/- Layer 8 in plain words: bits that stand; what tokens say is no more than may be. -/
namespace Go.Proofs.YtjlkjebmilfgoaaGreat
open Go.RowKit

theorem Bits.app {a b : List UInt8} (h : Bits a) (k : Bits b) : Bits (a ++ b) := fun x hx => (List.mem_append.1 hx).elim (h x) (k x)
theorem code_bits (l : List Nat) (s : Nat) : Bits (code l s) := hb_bits _ _
theorem expandF_max (M : Int) : ∀ (l : List Tk) (out want : List UInt8), expandF M l out = (want, 0) → (out.length : Int) ≤ M → (want.length : Int) ≤ M
  | [], out, want, h, ho => by
    rw [expandF] at h
    obtain ⟨rfl, _⟩ : out = want ∧ True := by simpa using h
    exact ho
  | t :: l, out, want, h, ho => by
    obtain ⟨h1, _, h3⟩ := expandF_cons M t l out want h
    have h4 := lay_length t out h1
    refine expandF_max M l (layF t out) want h3 ?_
    rw [expandF] at h
    split at h
    · cases h
    · split at h
      · cases h
      · split at h
        · cases h
        · omega
theorem Stand.of_le {t E : List UInt8} (hE : Bits E) (h : le t = le2 E) : Stand (bitsOf t) 0 E := fun i hi _ => by
  rw [Nat.zero_add, bt_le2 _ (bitsOf_bits t), le2_bitsOf, h, ← bt_le2 _ hE]
theorem Stand.more {B x : List UInt8} {a : Nat} (h : Stand B a x) (hl : a + x.length ≤ B.length) (q : List UInt8) : Stand (B ++ q) a x := fun i hi _ => by
  rw [← h i hi (by omega)]
  unfold bt
  rw [List.getD_eq_getElem?_getD, List.getD_eq_getElem?_getD, List.getElem?_append_left (by omega)]
theorem bitsOf_app (a b : List UInt8) : bitsOf (a ++ b) = bitsOf a ++ bitsOf b := by simp [bitsOf]
theorem bitsOf_take : ∀ (l : List UInt8) (k : Nat), bitsOf (l.take k) = (bitsOf l).take (8 * k)
  | [], k => by simp [bitsOf]
  | b :: l, 0 => by simp [bitsOf]
  | b :: l, k + 1 => by
    have ih := bitsOf_take l k
    simp only [bitsOf, List.take_succ_cons, List.flatMap_cons] at ih ⊢
    rw [ih, List.take_append, nb_length, show 8 * (k + 1) - 8 = 8 * k by omega, List.take_of_length_le (l := nb b.toNat 8) (by rw [nb_length]; omega)]
end Go.Proofs.YtjlkjebmilfgoaaGreat
