/- Layers 8 and 11: blocks, and streams of them, are read back: in plain words; a writer apart. -/
import Derived.Test.YtjlkjebmilfgoaaGreatEnc
import Derived.Test.YtjlkjebmilfgoaaGreatKOw
import Derived.Test.YtjlkjebmilfgoaaGreatDStream
import Derived.Test.YtjlkjebmilfgoaaGreatM10
/- Layers 8 and 11 in plain words: blocks and streams of them are read back. -/
/- Layers 8 and 11 in plain words: tokens, written by any two codes, are read back. -/
namespace Go.Proofs.YtjlkjebmilfgoaaGreat
open Go.RowKit

theorem mDist_read (B : List UInt8) (hB : Bits B) (l : List Nat) (hl : Low l) (hf : fu l 16 ≤ 32768) (k : Int) (d v m a : Nat) (hd : DistIs k (d : Nat) (v : Nat) (m : Nat) true) (hh : Has l d) (hs : Stand B a (code l d ++ nb m v)) (h : a + ln l d + v ≤ B.length) : mDist B l a = (0, a + ln l d + v, k.toNat) := by
  generalize hy : ((d : Nat) : Int) = yi at hd
  generalize hv : ((v : Nat) : Int) = vi at hd
  generalize hm : ((m : Nat) : Int) = mi at hd
  have key : d < 30 ∧ db d = v ∧ m < 2 ^ v ∧ k = (df d + m : Nat) := by
    cases hd with
    | row s m' hs' hm' =>
      obtain rfl : d = s := by omega
      obtain rfl : v = db d := by omega
      obtain rfl : m = m' := by omega
      exact ⟨hs', rfl, hm', rfl⟩
  obtain ⟨k1, k3, k4, rfl⟩ := key
  have h1 := hs.left
  have h2 := hs.right
  rw [code_length] at h2
  have hr := rdp_stand l B d a hh hl hf h1 (by omega)
  have hn := nm_stand B hB (nb m v) (a + ln l d) (nb_bits m v) h2 (by rw [nb_length]; exact h)
  rw [nb_length, le2_nb, Nat.mod_eq_of_lt k4] at hn
  unfold mDist
  rw [hr]
  simp only
  rw [if_neg (by simp), if_neg (by omega), k3, if_neg (by omega), hn]
  simp
  omega
set_option maxRecDepth 50000 in
set_option maxHeartbeats 1000000 in
/-- One token read. -/
theorem tok_read (B : List UInt8) (hB : Bits B) (la lb : List Nat) (ha : Low la) (hb : Low lb) (fa : fu la 16 ≤ 32768) (fb : fu lb 16 ≤ 32768) (most : Int) (f a : Nat) (out : List UInt8) (t : Tk) (hm : mayB t = true) (hf : FitsT la lb t) (hk : t.k ≤ out.length) (hs : Stand B a (tokB la lb t)) (h : a + (tokB la lb t).length ≤ B.length) (hw : ¬ most < out.length + sayN t) :
    mCoded B la lb most (f + 1) a out = mCoded B la lb most f (a + (tokB la lb t).length) (layF t out) := by
  obtain ⟨b, n, k⟩ := t
  unfold tokB at hs h ⊢
  unfold FitsT at hf
  by_cases hn : n = 0
  · subst hn
    rw [if_pos rfl] at hs h hf ⊢
    simp only at hs h hf ⊢
    have hbl := b.toNat_lt
    have hsay : sayN ⟨b, 0, k⟩ = 1 := rfl
    have hlay : layF ⟨b, 0, k⟩ out = out ++ [b] := rfl
    rw [code_length] at h ⊢
    rw [hsay] at hw
    have hr := rdp_stand la B b.toNat a hf ha fa hs h
    rw [mCoded_step, hr, hlay]
    simp only
    rw [if_neg (by simp), if_neg (by omega), if_pos (by omega), ofNat_toNat, if_neg hw]
  · obtain ⟨m1, m2, m3, m4⟩ := may_far ⟨b, n, k⟩ hm hn
    simp only at m1 m2 m3 m4
    rw [if_neg hn] at hs h hf ⊢
    simp only at hs h hf ⊢
    obtain ⟨hl, hl1, hl2, _⟩ := lenT_is n m1 m2
    obtain ⟨hd, hd1, _⟩ := distT_is k m3 m4
    generalize (lenT n).1 = y at *
    generalize (lenT n).2.1 = v at *
    generalize (lenT n).2.2 = m at *
    generalize (distT k).1 = d at *
    generalize (distT k).2.1 = v2 at *
    generalize (distT k).2.2 = mm at *
    have s1 := hs.left
    have s2 := hs.right
    rw [code_length] at s2
    have s21 := s2.left
    have s3 := s2.right
    rw [nb_length] at s3
    have hlen : (code la y ++ (nb m v ++ (code lb d ++ nb mm v2))).length = ln la y + v + ln lb d + v2 := by
      rw [List.length_append, List.length_append, List.length_append, code_length, code_length, nb_length, nb_length]
      omega
    rw [hlen] at h ⊢
    obtain ⟨q1, q2, q0, q3, _⟩ := mLen_stand B hB n y v m (a + ln la y) hl s21
    have e4 := mDist_read B hB lb hb fb k d v2 mm (a + ln la y + v) hd hf.2 s3 (by omega)
    have hsay : sayN ⟨b, n, k⟩ = n := if_neg hn
    have hlay : layF ⟨b, n, k⟩ out = copyF k.toNat n.toNat out := if_neg hn
    simp only at hk
    rw [hsay] at hw
    have hr := rdp_stand la B y a hf.1 ha fa s1 (by omega)
    have e3 := q3 (by omega)
    have hbk : mBack B lb most y (a + ln la y) out = (0, a + ln la y + v + ln lb d + v2, copyF k.toNat n.toNat out) := by
      unfold mBack
      rw [e3]
      simp only
      rw [if_neg (by simp), e4]
      simp only
      rw [if_neg (by simp), if_neg (by omega), if_neg (by omega)]
    rw [mCoded_step, hr, hlay]
    simp only
    rw [if_neg (by simp), if_neg (by omega), if_neg (by omega), hbk]
    simp only
    rw [if_neg (by simp)]
    congr 1
    omega
theorem tokB_pos (la lb : List Nat) (t : Tk) (hf : FitsT la lb t) : 1 ≤ (tokB la lb t).length := by
  unfold tokB
  unfold FitsT at hf
  split
  · rename_i hn
    rw [if_pos hn] at hf
    rw [code_length]
    exact hf.2
  · rename_i hn
    rw [if_neg hn] at hf
    rw [List.length_append, code_length]
    have := hf.1.2
    omega
set_option maxRecDepth 50000 in
/-- All tokens of a block, and its end, read. -/
theorem toks_read (B : List UInt8) (hB : Bits B) (la lb : List Nat) (ha : Low la) (hb : Low lb) (fa : fu la 16 ≤ 32768) (fb : fu lb 16 ≤ 32768) (h256 : Has la 256) (most M : Int) : ∀ (ts : List Tk) (out want : List UInt8) (f a : Nat), (∀ t ∈ ts, FitsT la lb t) → expandF M ts out = (want, 0) → Stand B a (encB la lb ts) → a + (encB la lb ts).length ≤ B.length → B.length < a + f → (want.length : Int) ≤ most →
    mCoded B la lb most f a out = (0, a + (encB la lb ts).length, want)
  | _, _, _, 0, a, _, _, _, h1, h2, _ => by omega
  | [], out, want, f + 1, a, _, hx, hs, h1, h2, _ => by
    rw [expandF] at hx
    obtain ⟨rfl, _⟩ : out = want ∧ True := by simpa using hx
    have e : encB la lb [] = code la 256 := by unfold encB; simp
    rw [e] at hs h1 ⊢
    rw [code_length] at h1 ⊢
    have hr := rdp_stand la B 256 a h256 ha fa hs h1
    rw [mCoded_step, hr]
    simp only
    rw [if_neg (by simp), if_pos trivial]
  | t :: l, out, want, f + 1, a, hf, hx, hs, h1, h2, hw => by
    obtain ⟨k1, k2, k3⟩ := expandF_cons M t l out want hx
    have e : encB la lb (t :: l) = tokB la lb t ++ encB la lb l := by unfold encB; rw [List.flatMap_cons, List.append_assoc]
    rw [e] at hs h1 ⊢
    rw [List.length_append] at h1 ⊢
    have hft := hf t List.mem_cons_self
    have hp := tokB_pos la lb t hft
    have hll := lay_length t out k1
    have hle := expandF_le M l (layF t out) want k3
    rw [tok_read B hB la lb ha hb fa fb most f a out t k1 hft k2 hs.left (by omega) (by omega), toks_read B hB la lb ha hb fa fb h256 most M l (layF t out) want f (a + (tokB la lb t).length) (fun x hx => hf x (List.mem_cons_of_mem _ hx)) k3 hs.right (by omega) (by omega) hw]
    congr 1
    congr 1
    omega
end Go.Proofs.YtjlkjebmilfgoaaGreat

/- Layers 8 and 11 in plain words: what is told ahead of symbols is read back. -/
namespace Go.Proofs.YtjlkjebmilfgoaaGreat
open Go.RowKit

theorem unF_cons (r : Ru) (t : List Ru) (o want : List Nat) (h : unF (r :: t) o = (want, 0)) : mayR r = true ∧ ¬ (r.s = 16 ∧ o.length = 0) ∧ unF t (o ++ List.replicate (timesF r) (whatF r.s o)) = (want, 0) := by
  rw [unF] at h
  split at h
  · simp at h
  · split at h
    · simp at h
    · split at h
      · simp at h
      · rename_i h1 h2 _
        exact ⟨by simpa using h1, h2, h⟩
theorem unF_le : ∀ (p : List Ru) (o want : List Nat), unF p o = (want, 0) → o.length ≤ want.length
  | [], o, want, h => by
    rw [unF] at h
    obtain ⟨rfl, _⟩ : o = want ∧ True := by simpa using h
    exact Nat.le_refl _
  | r :: t, o, want, h => by
    have := unF_le t _ want (unF_cons r t o want h).2.2
    rw [List.length_append] at this
    omega
set_option maxRecDepth 20000 in
set_option maxHeartbeats 1000000 in
/-- A row of lengths read by the first code. -/
theorem row_read (B : List UInt8) (hB : Bits B) (F : List Nat) (hl : Low F) (hf : fu F 16 ≤ 32768) (N : Nat) : ∀ (p : List Ru) (o want : List Nat) (f a : Nat), (∀ r ∈ p, Has F r.s.toNat) → unF p o = (want, 0) → want.length = N → Stand B a (p.flatMap (ruB F)) → a + (p.flatMap (ruB F)).length ≤ B.length → N ≤ o.length + f →
    mRow B F N f a o = (0, a + (p.flatMap (ruB F)).length, want)
  | [], o, want, f, a, _, hx, hn, _, _, _ => by
    rw [unF] at hx
    obtain ⟨rfl, _⟩ : o = want ∧ True := by simpa using hx
    cases f with
    | zero => rfl
    | succ f => rw [mRow, if_pos (by omega)]; rfl
  | r :: t, o, want, f, a, hh, hx, hn, hs, h1, h2 => by
    obtain ⟨k1, k2, k3⟩ := unF_cons r t o want hx
    have hle := unF_le t _ want k3
    have hti := times_le r k1
    rw [List.length_append, List.length_replicate] at hle
    obtain ⟨s0, s18, m0, mm⟩ := mayR_yes r k1
    cases f with
    | zero => omega
    | succ f =>
      rw [List.flatMap_cons] at hs h1 ⊢
      rw [List.length_append] at h1 ⊢
      have ih := row_read B hB F hl hf N t _ want f (a + (ruB F r).length) (fun x hx => hh x (List.mem_cons_of_mem _ hx)) k3 hn hs.right (by omega) (by rw [List.length_append, List.length_replicate]; omega)
      have hs1 := hs.left
      have hru : (ruB F r).length = ln F r.s.toNat + bitsF r.s := by unfold ruB; rw [List.length_append, code_length, nb_length]
      unfold ruB at hs1
      have hc := hs1.left
      have hm := hs1.right
      rw [code_length] at hm
      have hr := rdp_stand F B r.s.toNat a (hh r List.mem_cons_self) hl hf hc (by omega)
      have hnm := nm_stand B hB (nb r.m.toNat (bitsF r.s)) (a + ln F r.s.toNat) (nb_bits _ _) hm (by rw [nb_length]; omega)
      have hbm := bits_most r.s
      rw [nb_length, le2_nb, Nat.mod_eq_of_lt (by rw [hbm]; omega)] at hnm
      obtain ⟨s, m⟩ := r
      simp only at *
      obtain ⟨y, rfl⟩ : ∃ y : Nat, s = y := ⟨s.toNat, by omega⟩
      rw [Int.toNat_natCast] at *
      have e16 : ((y : Int) = 16) ↔ y = 16 := by omega
      have e17 : ((y : Int) = 17) ↔ y = 17 := by omega
      have e18 : ((y : Int) = 18) ↔ y = 18 := by omega
      rw [mRow, if_neg (by omega), hr]
      simp only
      rw [if_neg (by simp)]
      by_cases hy : y < 16
      · have hb0 : bitsF (y : Int) = 0 := by unfold bitsF; rw [if_neg (by omega), if_neg (by omega), if_neg (by omega)]
        have hl1 : leastF (y : Int) = 1 := by unfold leastF; rw [if_neg (by omega), if_neg (by omega), if_neg (by omega)]
        have hm0 : m = 0 := by
          have : mostF (y : Int) = 0 := by unfold mostF; rw [if_neg (by omega), if_neg (by omega), if_neg (by omega)]
          omega
        have hti1 : timesF ⟨(y : Int), m⟩ = 1 := by unfold timesF; simp only; rw [hl1, hm0]; rfl
        have hwh : whatF (y : Int) o = y := by unfold whatF; rw [if_neg (by omega), if_neg (by omega), if_neg (by omega)]; rfl
        rw [if_pos hy]
        rw [hti1, hwh, hru, hb0] at ih
        rw [hru, hb0]
        simp only [Nat.add_zero] at ih ⊢
        rw [show List.replicate 1 y = [y] from rfl] at ih
        rw [ih]
        congr 1
        congr 1
        omega
      · have htw : tw y = bitsF (y : Int) := by
          unfold tw bitsF
          simp only [e16, e17, e18]
          split
          · rfl
          · split
            · rfl
            · rw [if_pos (by omega)]
        have htv : tv y = leastF (y : Int) := by
          unfold tv leastF
          simp only [e16, e17, e18]
          by_cases h18 : y = 18
          · rw [if_pos h18, if_neg (by omega), if_neg (by omega), if_pos h18]
          · rw [if_neg h18]
            by_cases h16 : y = 16
            · rw [if_pos h16]
            · rw [if_neg h16, if_pos (by omega)]
        have hwh : whatF (y : Int) o = if y = 16 then o.getD (o.length - 1) 0 else 0 := by
          unfold whatF
          simp only [e16, e17, e18]
          by_cases h16 : y = 16
          · rw [if_pos h16, if_pos h16]
          · rw [if_neg h16, if_neg h16]
            by_cases h17 : y = 17
            · rw [if_pos h17]
            · rw [if_neg h17, if_pos (by omega)]
        have htt : timesF ⟨(y : Int), m⟩ = tv y + m.toNat := by unfold timesF; simp only; rw [htv]
        rw [if_neg hy, if_neg (by rw [e16] at k2; exact k2), htw, hnm, if_neg (by omega), ← htt, if_neg (by omega), ← hwh]
        rw [hru] at ih
        rw [hru, show a + ln F y + bitsF (y : Int) = a + (ln F y + bitsF (y : Int)) by omega, ih]
        congr 1
        congr 1
        omega
theorem flat_const {α : Type} (f : α → List UInt8) (m : Nat) (h : ∀ x, (f x).length = m) : ∀ l : List α, (l.flatMap f).length = m * l.length
  | [] => by simp
  | x :: l => by rw [List.flatMap_cons, List.length_append, flat_const f m h l, h, List.length_cons, Nat.mul_add]; omega
/-- Told lengths, laid where they belong. -/
def sp (l : List Nat) : Nat → List Nat
  | 0 => List.replicate 19 0
  | i + 1 => (sp l i).set (order.getD i 0) (ln l i)
theorem sp_length (l : List Nat) : ∀ i, (sp l i).length = 19
  | 0 => by simp [sp]
  | i + 1 => by rw [sp, List.length_set, sp_length l i]
theorem order_inj : ∀ i j : Fin 19, order.getD i.val 0 = order.getD j.val 0 → i = j := by decide +kernel
theorem order_lt19 : ∀ i : Fin 19, order.getD i.val 0 < 19 := by decide +kernel
theorem order_on : ∀ j : Fin 19, ∃ i : Fin 19, order.getD i.val 0 = j.val := by decide +kernel
theorem sp_at (l : List Nat) : ∀ i, i ≤ 19 → ∀ j, j < 19 → (sp l i).getD (order.getD j 0) 0 = if j < i then ln l j else 0
  | 0, _, j, hj => by
    have h19 : order.getD j 0 < 19 := order_lt19 ⟨j, hj⟩
    rw [sp, List.getD_eq_getElem?_getD, List.getElem?_replicate, if_pos h19, if_neg (by omega)]
    rfl
  | i + 1, hi, j, hj => by
    rw [sp, List.getD_eq_getElem?_getD, List.getElem?_set]
    by_cases h : j = i
    · subst h
      rw [if_pos rfl, if_pos (by rw [sp_length]; exact order_lt19 ⟨j, hj⟩), if_pos (by omega)]
      rfl
    · rw [if_neg (fun e => h (by have := order_inj ⟨i, by omega⟩ ⟨j, hj⟩ e; exact (Fin.mk.inj this).symm)), ← List.getD_eq_getElem?_getD, sp_at l i (by omega) j hj]
      by_cases h2 : j < i
      · rw [if_pos h2, if_pos (by omega)]
      · rw [if_neg h2, if_neg (by omega)]
theorem firsts_read (B : List UInt8) (hB : Bits B) (l : List Nat) (h7 : ∀ i, ln l i ≤ 7) (a : Nat) (hs : Stand B a (l.flatMap fun n => nb n 3)) (h : a + 3 * l.length ≤ B.length) : ∀ i, i ≤ l.length → firsts B a i = sp l i
  | 0, _ => rfl
  | i + 1, hi => by
    rw [firsts, sp, firsts_read B hB l h7 a hs h i (by omega)]
    congr 1
    have e : l.flatMap (fun n => nb n 3) = (l.take i).flatMap (fun n => nb n 3) ++ (nb (ln l i) 3 ++ (l.drop (i + 1)).flatMap fun n => nb n 3) := by
      conv => lhs; rw [split_at l i (by omega)]
      rw [List.flatMap_append, List.flatMap_cons]
    rw [e] at hs
    have hl : ((l.take i).flatMap fun n => nb n 3).length = 3 * i := by
      rw [flat_const _ 3 (fun n => nb_length n 3), List.length_take, Nat.min_eq_left (by omega)]
    have h2 := hs.right.left
    rw [hl] at h2
    have hn := nm_stand B hB (nb (ln l i) 3) (a + 3 * i) (nb_bits _ _) h2 (by rw [nb_length]; omega)
    rw [nb_length, le2_nb, Nat.mod_eq_of_lt (by have := h7 i; omega)] at hn
    exact hn
theorem on_pos : ∀ (l : List Nat) (x : Nat), x ∈ l → x ≠ 0 → 0 < sumBy on l
  | [], _, h, _ => by cases h
  | y :: l, x, h, hx => by
    have e : sumBy on (y :: l) = on y + sumBy on l := by simp [sumBy]
    rw [e]
    rcases List.mem_cons.1 h with rfl | h2
    · unfold on
      rw [if_neg hx]
      omega
    · have := on_pos l x h2 hx
      omega
theorem has_kd (l : List Nat) (hl : Low l) (s : Nat) (h : Has l s) : ¬ (kd l).1 = 2 := by
  have hst : st l 16 ≠ 0 := by
    rw [st_sum l hl]
    have hm : ln l s ∈ l := by
      have hlt := h.1
      have e : ln l s = l[s] := by simp [ln, hlt]
      rw [e]
      exact List.getElem_mem _
    have := on_pos l _ hm (by have := h.2; omega)
    omega
  unfold kd
  rw [if_neg hst]
  split
  · decide
  · split <;> decide
theorem hdr_told (L : List Nat) : sp (ownT L) (ownT L).length = ownF L := by
  have hF := (ownF_facts L).1
  apply List.ext_getElem
  · rw [sp_length, hF]
  · intro j h1 h2
    rw [hF] at h2
    obtain ⟨i, hi⟩ := order_on ⟨j, h2⟩
    simp only at hi
    have h := sp_at (ownT L) (ownT L).length (ownT_len L).2 i.val i.isLt
    rw [hi] at h
    have e1 : (sp (ownT L) (ownT L).length).getD j 0 = (sp (ownT L) (ownT L).length)[j] := by rw [List.getD_eq_getElem?_getD, List.getElem?_eq_getElem h1]; rfl
    have e2 : ln (ownT L) i.val = ln (ownF L) j := by
      unfold ownT
      rw [ln_trimF]
      unfold toldTo ln
      rw [List.getD_eq_getElem?_getD, List.getElem?_map, List.take_of_length_le (by decide)]
      rw [List.getElem?_eq_getElem (by exact i.isLt)]
      have : order[i.val]'(by exact i.isLt) = j := by
        rw [← hi, List.getD_eq_getElem?_getD, List.getElem?_eq_getElem (by exact i.isLt)]
        rfl
      simp [this]
    have e3 : ln (ownF L) j = (ownF L)[j] := by unfold ln; rw [List.getD_eq_getElem?_getD, List.getElem?_eq_getElem (by omega)]; rfl
    rw [← e1, h, ← e3, ← e2]
    split
    · rfl
    · rename_i h3
      unfold ln
      rw [List.getD_eq_getElem?_getD, List.getElem?_eq_none (by omega)]
      rfl
set_option maxRecDepth 20000 in
/-- All that is told ahead of a block's symbols is read back. -/
theorem own_read (B : List UInt8) (hB : Bits B) (L : List Nat) (hL : L.length = 317) (h256 : 0 < ln L 256) (hu : unF (ownR L) [] = (ownA L ++ ownB L, 0)) (hr : (ownR L).length ≤ 316) (a : Nat) (hs : Stand B a (hdrB L)) (h : a + (hdrB L).length ≤ B.length) :
    mOwn B a = (0, a + (hdrB L).length, ownA L, ownB L) := by
  have hA := ownA_len hL
  have hBl := ownB_len hL
  have hT := ownT_len L
  have hrow := row_read B hB (ownF L) (lowF L) (kd_full _ (lowF L) (kdF L)) ((ownA L).length + (ownB L).length) (ownR L) [] (ownA L ++ ownB L) ((ownA L).length + (ownB L).length)
  have hfi := firsts_read B hB (ownT L) (ownT_le L)
  have e1 : hdr1 L 19 = (ownT L).flatMap fun n => nb n 3 := by unfold hdr1; rw [List.take_of_length_le hT.2]
  have e2 : hdr2 L 316 = (ownR L).flatMap (ruB (ownF L)) := by unfold hdr2; rw [List.take_of_length_le hr]
  have e1l : (hdr1 L 19).length = 3 * (ownT L).length := by rw [e1]; exact flat_const _ 3 (fun n => nb_length n 3) _
  unfold hdrB at hs h ⊢
  rw [List.length_append, List.length_append, hdr0_length, e1l] at h ⊢
  have s0 := hs.left.left
  have s1 := hs.left.right
  have s2 := hs.right
  rw [hdr0_length] at s1
  rw [List.length_append, hdr0_length, e1l] at s2
  rw [e2] at s2 h ⊢
  rw [e1] at s1
  unfold hdr0 at s0
  have t1 := s0.left.left
  have t2 := s0.left.right
  have t3 := s0.right
  rw [nb_length] at t2
  rw [List.length_append, nb_length, nb_length] at t3
  have n1 := nm_stand B hB _ a (nb_bits _ _) t1 (by rw [nb_length]; omega)
  have n2 := nm_stand B hB _ (a + 5) (nb_bits _ _) t2 (by rw [nb_length]; omega)
  have n3 := nm_stand B hB _ (a + 10) (nb_bits _ _) t3 (by rw [nb_length]; omega)
  rw [nb_length, le2_nb, Nat.mod_eq_of_lt (by show (ownA L).length - 257 < 32; omega)] at n1
  rw [nb_length, le2_nb, Nat.mod_eq_of_lt (by show (ownB L).length - 1 < 32; omega)] at n2
  rw [nb_length, le2_nb, Nat.mod_eq_of_lt (by show (ownT L).length - 4 < 16; omega)] at n3
  have hR := hrow (a + (14 + 3 * (ownT L).length)) (fun r h => hasF L hu r h) hu (List.length_append) s2 (by omega) (by simp)
  unfold mOwn
  rw [n1, n2, n3]
  rw [show 257 + ((ownA L).length - 257) = (ownA L).length by omega, show 1 + ((ownB L).length - 1) = (ownB L).length by omega, show 4 + ((ownT L).length - 4) = (ownT L).length by omega]
  rw [if_neg (by omega), if_neg (by omega), if_neg (by omega), hfi (a + 14) s1 (by omega) _ (Nat.le_refl _), hdr_told, show a + 14 + 3 * (ownT L).length = a + (14 + 3 * (ownT L).length) by omega]
  unfold mOwn2
  rw [hR]
  simp only
  have hne : ¬ ((kd (ownF L)).2 ≠ 0 ∨ (kd (ownF L)).1 = 2) := by
    rintro (h3 | h3)
    · exact h3 (kdF L)
    · have hne : ownR L ≠ [] := by
        intro h4
        rw [h4, unF] at hu
        have h5 : ([] : List Nat) = ownA L ++ ownB L := by simpa using hu
        have := congrArg List.length h5
        rw [List.length_append, List.length_nil] at this
        omega
      obtain ⟨r, t, hrt⟩ := List.exists_cons_of_ne_nil hne
      exact has_kd _ (lowF L) _ (hasF L hu r (by rw [hrt]; exact List.mem_cons_self)) h3
  rw [if_neg hne, if_neg (by simp)]
  rw [List.take_left' rfl, List.drop_left' rfl, kdA hL, kdB hL]
  have h6 : ln (ownA L ++ ownB L) 256 ≠ 0 := by
    have := (hasOwnA hL 256 (by decide) h256).2
    unfold ln at this ⊢
    rw [List.getD_eq_getElem?_getD, List.getElem?_append_left (by omega), ← List.getD_eq_getElem?_getD]
    omega
  rw [if_neg h6, if_neg (by simp)]
  simp only [Prod.mk.injEq, true_and, and_true]
  omega
end Go.Proofs.YtjlkjebmilfgoaaGreat

/- Layers 8 and 11 in plain words: blocks, one behind the other, are read back. -/
namespace Go.Proofs.YtjlkjebmilfgoaaGreat
open Go.RowKit

theorem head_read (B : List UInt8) (hB : Bits B) (a kind : Nat) (last : Bool) (hk : kind < 4) (hs : Stand B a (headB kind last)) (h : a + 3 ≤ B.length) : nm B a 1 = (if last then 1 else 0) ∧ nm B (a + 1) 2 = kind := by
  have h1 := hs.left
  have h2 := hs.right
  rw [nb_length] at h2
  have n1 := nm_stand B hB _ a (nb_bits _ _) h1 (by rw [nb_length]; omega)
  have n2 := nm_stand B hB _ (a + 1) (nb_bits _ _) h2 (by rw [nb_length]; omega)
  rw [nb_length, le2_nb] at n1 n2
  exact ⟨by rw [n1]; cases last <;> rfl, by rw [n2]; exact Nat.mod_eq_of_lt hk⟩
theorem copyF_pre (k : Nat) (hk : 0 < k) (pre : List UInt8) : ∀ (n : Nat) (l : List UInt8), k ≤ l.length → copyF k n (pre ++ l) = pre ++ copyF k n l
  | 0, _, _ => rfl
  | n + 1, l, h => by
    have e : (pre ++ l).getD ((pre ++ l).length - k) 0 = l.getD (l.length - k) 0 := by
      rw [List.length_append, List.getD_eq_getElem?_getD, List.getElem?_append_right (by omega), List.getD_eq_getElem?_getD]
      congr 2
      omega
    rw [copyF, copyF, e, List.append_assoc, copyF_pre k hk pre n _ (by rw [List.length_append]; omega)]
theorem lay_pre (t : Tk) (pre l : List UInt8) (hm : mayB t = true) (hk : t.k ≤ l.length) : layF t (pre ++ l) = pre ++ layF t l := by
  unfold layF
  split
  · rw [List.append_assoc]
  · rename_i hn
    obtain ⟨_, _, h3, _⟩ := may_far t hm hn
    exact copyF_pre _ (by omega) pre _ l (by omega)
/-- What tokens say, behind what is said already. -/
theorem expand_pre (M M2 : Int) (pre : List UInt8) : ∀ (ts : List Tk) (l w : List UInt8), expandF M ts l = (w, 0) → (pre.length + w.length : Int) ≤ M2 → expandF M2 ts (pre ++ l) = (pre ++ w, 0)
  | [], l, w, h, _ => by
    rw [expandF] at h ⊢
    obtain ⟨rfl, _⟩ : l = w ∧ True := by simpa using h
    rfl
  | t :: r, l, w, h, hw => by
    obtain ⟨k1, k2, k3⟩ := expandF_cons M t r l w h
    have h4 := lay_length t l k1
    have h5 := expandF_le M r (layF t l) w k3
    rw [expandF, if_neg (by rw [k1]; decide), if_neg (by rw [List.length_append]; omega), if_neg (by rw [List.length_append]; omega), lay_pre t pre l k1 k2]
    exact expand_pre M M2 pre r _ w k3 hw
/-- A block of kind 1, behind its head. -/
theorem plain_read (B : List UInt8) (hB : Bits B) (most M : Int) (ts : List Tk) (out want : List UInt8) (a : Nat) (hx : expandF M ts [] = (want, 0)) (hm : allB ts = true) (hs : Stand B a (encB fixA fixB ts)) (h : a + (encB fixA fixB ts).length ≤ B.length) (hw : (out.length + want.length : Int) ≤ most) :
    mBlock B most 1 a out = (0, a + (encB fixA fixB ts).length, out ++ want) := by
  have hf := fits_fix ts hm
  have hx2 := expand_pre M most out ts [] want hx hw
  rw [List.append_nil] at hx2
  unfold mBlock
  rw [if_neg (by decide), if_pos rfl]
  exact toks_read B hB fixA fixB low_fixA low_fixB fu_fixA fu_fixB hf.1 most most ts out _ _ a hf.2 hx2 hs h (by omega) (by rw [List.length_append]; omega)
/-- A block of kind 2, behind its head. -/
theorem own_block (B : List UInt8) (hB : Bits B) (most M : Int) (ts : List Tk) (out want : List UInt8) (a : Nat) (hx : expandF M ts [] = (want, 0)) (hm : allB ts = true) (hu : unF (ownR (talF ts)) [] = (ownA (talF ts) ++ ownB (talF ts), 0)) (hr : (ownR (talF ts)).length ≤ 316)
    (hs : Stand B a (hdrB (talF ts) ++ encB (ownA (talF ts)) (ownB (talF ts)) ts)) (h : a + (hdrB (talF ts) ++ encB (ownA (talF ts)) (ownB (talF ts)) ts).length ≤ B.length) (hw : (out.length + want.length : Int) ≤ most) :
    mBlock B most 2 a out = (0, a + (hdrB (talF ts) ++ encB (ownA (talF ts)) (ownB (talF ts)) ts).length, out ++ want) := by
  have hL := talF_length ts
  have hf := fits_own ts hm
  have hx2 := expand_pre M most out ts [] want hx hw
  rw [List.append_nil] at hx2
  have hla := ownA_low hL
  have hlb := ownB_low hL
  rw [List.length_append] at h ⊢
  have ho := own_read B hB (talF ts) hL (talF_end ts) hu hr a hs.left (by omega)
  unfold mBlock
  rw [if_neg (by decide), if_neg (by decide), if_pos rfl, ho]
  simp only
  rw [if_neg (by simp)]
  rw [toks_read B hB _ _ hla hlb (kd_full _ hla (kdA hL)) (kd_full _ hlb (kdB hL)) hf.1 most most ts out _ _ (a + (hdrB (talF ts)).length) hf.2 hx2 hs.right (by omega) (by omega) (by rw [List.length_append]; omega), Nat.add_assoc]
theorem by8_stand (B : List UInt8) (hB : Bits B) (l : List UInt8) (a : Nat) (hs : Stand B a (bitsOf l)) (h : a + 8 * l.length ≤ B.length) : by8 B a l.length = l := by
  apply List.ext_getElem
  · rw [by8_length]
  · intro i h1 h2
    have e1 : (by8 B a l.length)[i] = (by8 B a l.length).getD i 0 := by rw [List.getD_eq_getElem?_getD, List.getElem?_eq_getElem h1]; rfl
    have e : bitsOf l = bitsOf (l.take i) ++ (nb (l[i]).toNat 8 ++ bitsOf (l.drop (i + 1))) := by
      conv => lhs; rw [← List.take_append_drop i l, List.drop_eq_getElem_cons h2]
      unfold bitsOf
      rw [List.flatMap_append, List.flatMap_cons]
    rw [e] at hs
    have h3 := hs.right.left
    rw [bitsOf_length, List.length_take, Nat.min_eq_left (by omega)] at h3
    have hn := nm_stand B hB _ _ (nb_bits _ _) h3 (by rw [nb_length]; omega)
    rw [nb_length, le2_nb, Nat.mod_eq_of_lt (by have := (l[i]).toNat_lt; omega)] at hn
    rw [e1, by8_at B a _ i h2, hn, ofNat_toNat]
/-- A block of kind 0, behind its head. -/
theorem stored_read (B : List UInt8) (hB : Bits B) (most : Int) (S : ByteArray) (last : Bool) (out bl : List UInt8) (hS : S.size ≤ 65535) (hs : Stand B 0 (storedB bl S last)) (h : (storedB bl S last).length ≤ B.length) (hw : (out.length + S.size : Int) ≤ most) :
    mBlock B most 0 (bl.length + 3) out = (0, (storedB bl S last).length, out ++ S.data.toList) := by
  have hal : (alignB (bl ++ headB 0 last)).length = up8 (bl.length + 3) := by rw [alignB_length, List.length_append, headB_length]; rfl
  have hlen : (storedB bl S last).length = up8 (bl.length + 3) + 32 + 8 * S.size := by
    unfold storedB
    rw [List.length_append, hal, List.length_append, bitsOf_length, bitsOf_length, List.length_append, bytesOf_length, bytesOf_length, show S.data.toList.length = S.size from rfl]
    omega
  rw [hlen] at h ⊢
  unfold storedB at hs
  have s1 := hs.right
  rw [hal, Nat.zero_add, bitsOf_append, List.append_assoc] at s1
  have s2 := s1.left
  have s3 := s1.right
  rw [bitsOf_length, bytesOf_length] at s3
  have s4 := s3.left
  have s5 := s3.right
  rw [bitsOf_length, bytesOf_length] at s5
  have n1 := nm_stand B hB _ _ (bitsOf_bits _) s2 (by rw [bitsOf_length, bytesOf_length]; omega)
  have n2 := nm_stand B hB _ _ (bitsOf_bits _) s4 (by rw [bitsOf_length, bytesOf_length]; omega)
  rw [bitsOf_length, bytesOf_length, le2_bitsOf, le_bytesOf] at n1 n2
  rw [show S.size % 256 ^ 2 = S.size from Nat.mod_eq_of_lt (by show S.size < 65536; omega)] at n1
  rw [show (18446744073709551615 - S.size) % 256 ^ 2 = 65535 - S.size by show (18446744073709551615 - S.size) % 65536 = _; omega] at n2
  have hb := by8_stand B hB S.data.toList (up8 (bl.length + 3) + 32) (by rw [show up8 (bl.length + 3) + 32 = up8 (bl.length + 3) + 8 * 2 + 8 * 2 by omega]; exact s5) (by rw [show S.data.toList.length = S.size from rfl]; omega)
  rw [show S.data.toList.length = S.size from rfl] at hb
  simp only [Nat.reduceMul] at n1 n2
  unfold mBlock
  rw [if_pos rfl]
  unfold mStored
  rw [n1, n2, if_neg (by omega), if_neg (by omega), if_neg (by omega), if_neg (by omega), hb]
end Go.Proofs.YtjlkjebmilfgoaaGreat

/- Layers 8 and 11 in plain words: a stream of blocks, whatever they are, is read back. -/
namespace Go.Proofs.YtjlkjebmilfgoaaGreat
open Go.RowKit

/-- A block: 0, of bytes; 1, of tokens by the plain codes; 2, by their own. -/
structure Pc where
  kind : Nat
  S : ByteArray
  ts : List Tk
def pcBits (bl : List UInt8) (p : Pc) (last : Bool) : List UInt8 := if p.kind = 0 then storedB bl p.S last else if p.kind = 1 then bl ++ plainB p.ts last else bl ++ ownBits p.ts last
/-- Tokens whose own lengths are packed so that they are said. -/
def Packed (ts : List Tk) : Prop := Packed0 (talF ts)
def PcOk (p : Pc) (said : List UInt8) : Prop :=
  (p.kind = 0 ∧ p.S.size ≤ 65535 ∧ said = p.S.data.toList) ∨ (p.kind = 1 ∧ allB p.ts = true ∧ ∃ M, expandF M p.ts [] = (said, 0)) ∨ (p.kind = 2 ∧ allB p.ts = true ∧ Packed p.ts ∧ ∃ M, expandF M p.ts [] = (said, 0))
theorem pc_read (B : List UInt8) (hB : Bits B) (most : Int) (bl out said : List UInt8) (p : Pc) (last : Bool) (hp : PcOk p said) (hs : Stand B 0 (pcBits bl p last)) (h : (pcBits bl p last).length ≤ B.length) (hw : (out.length + said.length : Int) ≤ most) :
    Stand B 0 bl ∧ bl.length + 3 ≤ (pcBits bl p last).length ∧ nm B bl.length 1 = (if last then 1 else 0) ∧ nm B (bl.length + 1) 2 = p.kind ∧ mBlock B most p.kind (bl.length + 3) out = (0, (pcBits bl p last).length, out ++ said) := by
  rcases hp with ⟨hk, h1, rfl⟩ | ⟨hk, h1, M, h2⟩ | ⟨hk, h1, ⟨h3, h4⟩, M, h2⟩
  · have e : pcBits bl p last = storedB bl p.S last := by unfold pcBits; rw [if_pos hk]
    rw [e] at hs h ⊢
    have hr := stored_read B hB most p.S last out bl h1 hs h hw
    have hs0 := hs
    unfold storedB alignB at hs0
    have s0 := hs0.left.left
    have hl : bl.length + 3 ≤ (storedB bl p.S last).length := by
      unfold storedB alignB
      rw [List.length_append, List.length_append, List.length_append, headB_length]
      omega
    have s1 := s0.right
    rw [Nat.zero_add] at s1
    obtain ⟨n1, n2⟩ := head_read B hB bl.length 0 last (by decide) s1 (by omega)
    rw [hk]
    exact ⟨s0.left, hl, n1, n2, hr⟩
  · have e : pcBits bl p last = bl ++ plainB p.ts last := by unfold pcBits; rw [if_neg (by omega), if_pos hk]
    rw [e] at hs h ⊢
    unfold plainB at hs h ⊢
    have s1 := hs.right
    rw [Nat.zero_add] at s1
    rw [List.length_append, List.length_append, headB_length] at h ⊢
    obtain ⟨n1, n2⟩ := head_read B hB bl.length 1 last (by decide) s1.left (by omega)
    have s2 := s1.right
    rw [headB_length] at s2
    rw [hk]
    refine ⟨hs.left, by omega, n1, n2, ?_⟩
    rw [plain_read B hB most M p.ts out said (bl.length + 3) h2 h1 s2 (by omega) hw, Nat.add_assoc]
  · have e : pcBits bl p last = bl ++ ownBits p.ts last := by unfold pcBits; rw [if_neg (by omega), if_neg (by omega)]
    rw [e] at hs h ⊢
    unfold ownBits at hs h ⊢
    rw [List.append_assoc] at hs h ⊢
    have s1 := hs.right
    rw [Nat.zero_add] at s1
    rw [List.length_append, List.length_append, headB_length] at h ⊢
    obtain ⟨n1, n2⟩ := head_read B hB bl.length 2 last (by decide) s1.left (by omega)
    have s2 := s1.right
    rw [headB_length] at s2
    rw [hk]
    refine ⟨hs.left, by omega, n1, n2, ?_⟩
    rw [own_block B hB most M p.ts out said (bl.length + 3) h2 h1 h3 h4 s2 (by omega) hw, Nat.add_assoc]
/-- Bits of blocks, none of them the last one: what is read of them. -/
def Reads (bl out : List UInt8) (ks : List Nat) : Prop := ∀ (B : List UInt8) (most : Int), Bits B → Stand B 0 bl → bl.length ≤ B.length → (out.length : Int) ≤ most → ∃ f, B.length < bl.length + f ∧ mStream B most = mStr B most f bl.length out ks
theorem Reads.nil : Reads [] [] [] := fun B _ _ _ _ _ => ⟨B.length + 1, by simp, rfl⟩
theorem mStr_one (B : List UInt8) (most : Int) (f a : Nat) (out : List UInt8) (ks : List Nat) (kind a' : Nat) (out' : List UInt8) (last : Bool) (h3 : a + 3 ≤ B.length) (h1 : nm B a 1 = (if last then 1 else 0)) (h2 : nm B (a + 1) 2 = kind) (hb : mBlock B most kind (a + 3) out = (0, a', out')) :
    mStr B most (f + 1) a out ks = if last then (0, a', out', ks ++ [kind]) else mStr B most f a' out' (ks ++ [kind]) := by
  rw [mStr, if_neg (by omega), h2, hb, h1]
  simp only
  rw [if_neg (by simp)]
  cases last <;> simp
theorem Reads.next {bl out : List UInt8} {ks : List Nat} (h : Reads bl out ks) (p : Pc) (said : List UInt8) (hp : PcOk p said) : Reads (pcBits bl p false) (out ++ said) (ks ++ [p.kind]) := by
  intro B most hB hs hl hw
  rw [List.length_append] at hw
  obtain ⟨s0, g1, g2, g3, g4⟩ := pc_read B hB most bl out said p false hp hs hl (by omega)
  obtain ⟨f, hf, e⟩ := h B most hB s0 (by omega) (by omega)
  cases f with
  | zero => omega
  | succ f =>
    refine ⟨f, by omega, ?_⟩
    rw [e, mStr_one B most f bl.length out ks p.kind _ _ false (by omega) g2 g3 g4]
    rfl
theorem Reads.last {bl out : List UInt8} {ks : List Nat} (h : Reads bl out ks) (p : Pc) (said : List UInt8) (hp : PcOk p said) (B : List UInt8) (most : Int) (hB : Bits B) (hs : Stand B 0 (pcBits bl p true)) (hl : (pcBits bl p true).length ≤ B.length) (hw : ((out ++ said).length : Int) ≤ most) :
    mStream B most = (0, (pcBits bl p true).length, out ++ said, ks ++ [p.kind]) := by
  rw [List.length_append] at hw
  obtain ⟨s0, g1, g2, g3, g4⟩ := pc_read B hB most bl out said p true hp hs hl (by omega)
  obtain ⟨f, hf, e⟩ := h B most hB s0 (by omega) (by omega)
  cases f with
  | zero => omega
  | succ f =>
    rw [e, mStr_one B most f bl.length out ks p.kind _ _ true (by omega) g2 g3 g4]
    rfl
end Go.Proofs.YtjlkjebmilfgoaaGreat

/- Layer 11: whatever blocks are written one behind the other, the stream says what they say: the law. -/
/- Layer 11: blocks one behind the other, written by the program: where it stands, and what is read of them at the end. -/
namespace Go.Proofs.YtjlkjebmilfgoaaGreat
open Go.RowKit

theorem bits_flat {α : Type} (f : α → List UInt8) (l : List α) (h : ∀ x ∈ l, Bits (f x)) : Bits (l.flatMap f) := fun b hb => by
  obtain ⟨x, hx, hb2⟩ := List.mem_flatMap.1 hb
  exact h x hx b hb2
theorem hdrB_bits (L : List Nat) : Bits (hdrB L) := by
  unfold hdrB hdr0 hdr1 hdr2
  refine bits_append (bits_append (bits_append (bits_append (nb_bits _ _) (nb_bits _ _)) (nb_bits _ _)) (bits_flat _ _ fun x _ => nb_bits _ _)) (bits_flat _ _ fun x _ => ?_)
  unfold ruB
  exact bits_append (code_bits _ _) (nb_bits _ _)
theorem own_isbits (ts : List Tk) (last : Bool) : Bits (ownBits ts last) := bits_append (bits_append (headB_bits _ _) (hdrB_bits _)) (enc_isbits _ _ _)
theorem pc_isbits (bl : List UInt8) (p : Pc) (last : Bool) (h : Bits bl) : Bits (pcBits bl p last) := by
  unfold pcBits
  split
  · unfold storedB alignB
    exact bits_append (bits_append (bits_append h (headB_bits _ _)) (zeros_bits _)) (bits_append (bitsOf_bits _) (bitsOf_bits _))
  · split
    · exact bits_append h (plain_isbits _ _)
    · exact bits_append h (own_isbits _ _)
theorem own_len (ts : List Tk) (last : Bool) (h : ts.length ≤ 40) (hm : allB ts = true) (hp : Packed ts) : (ownBits ts last).length ≤ 10700 := by
  have hmay : ∀ t ∈ ts, mayB t = true := fun t ht => List.all_eq_true.1 hm t ht
  have hL := talF_length ts
  have hlA : Low (ownA (talF ts)) := ownA_low hL
  have hlB : Low (ownB (talF ts)) := ownB_low hL
  have h1 := toks_length (ownA (talF ts)) (ownB (talF ts)) hlA hlB ts hmay
  have h2 := ln_le (ownA (talF ts)) 256 hlA
  have h3 := hdrB_length (talF ts) hp.2
  unfold ownBits encB
  rw [List.length_append, List.length_append, List.length_append, headB_length, code_length]
  omega
/-- No block adds more bits than so. -/
theorem pc_len (bl : List UInt8) (p : Pc) (said : List UInt8) (last : Bool) (hp : PcOk p said) (hS : p.S.size ≤ 60) (hT : p.ts.length ≤ 40) : (pcBits bl p last).length ≤ bl.length + 11000 := by
  unfold pcBits
  rcases hp with ⟨hk, _, _⟩ | ⟨hk, hm, _⟩ | ⟨hk, hm, hq, _⟩
  · rw [if_pos hk]
    unfold storedB
    rw [List.length_append, alignB_length, List.length_append, List.length_append, bitsOf_length, bitsOf_length, List.length_append, bytesOf_length, bytesOf_length, headB_length]
    have : p.S.data.toList.length = p.S.size := rfl
    omega
  · rw [if_neg (by omega), if_pos hk, List.length_append]
    have := plain_len p.ts last (by omega) hm
    omega
  · rw [if_neg (by omega), if_neg (by omega), List.length_append]
    have := own_len p.ts last hT hm hq
    omega
theorem pc_said (p : Pc) (said : List UInt8) (hp : PcOk p said) (hS : p.S.size ≤ 60) (h : p.kind ≠ 0 → expandF 3000 p.ts [] = (said, 0)) : said.length ≤ 3000 := by
  by_cases hk : p.kind = 0
  · rcases hp with ⟨_, _, rfl⟩ | ⟨h1, _⟩ | ⟨h1, _⟩
    · have : p.S.data.toList.length = p.S.size := rfl
      omega
    · omega
    · omega
  · have := expandF_max 3000 p.ts [] said (h hk) (by decide)
    omega
/-- All blocks are written: the stream is read back. -/
def Fin11 (bl out : List UInt8) (ks : List Nat) : Prop := ∀ (B : List UInt8) (most : Int), Bits B → Stand B 0 bl → bl.length ≤ B.length → (out.length : Int) ≤ most → mStream B most = (0, bl.length, out, ks)
/-- What is said behind j of n blocks. -/
structure Say11 (n j : Nat) (bl out : List UInt8) (ks : List Nat) : Prop where
  bits : Bits bl
  len : bl.length ≤ 11000 * j
  said : out.length ≤ 3000 * j
  kinds : ks.length = j
  reads : j < n → Reads bl out ks
  fin : j = n → Fin11 bl out ks
theorem Say11.start {n : Nat} (h : 0 < n) : Say11 n 0 [] [] [] := ⟨(fun x hx => by cases hx), (by decide), (by decide), rfl, fun _ => Reads.nil, fun e => by omega⟩
theorem Say11.next {n j : Nat} {bl out : List UInt8} {ks : List Nat} (h : Say11 n j bl out ks) (hj : j < n) (p : Pc) (said : List UInt8) (hp : PcOk p said) (hS : p.S.size ≤ 60) (hT : p.ts.length ≤ 40) (hs : said.length ≤ 3000) :
    Say11 n (j + 1) (pcBits bl p (decide ((j : Int) = (n : Int) - 1))) (out ++ said) (ks ++ [p.kind]) := by
  have h1 := h.len
  have h2 := h.said
  have h3 := pc_len bl p said (decide ((j : Int) = (n : Int) - 1)) hp hS hT
  refine ⟨pc_isbits _ _ _ h.bits, by omega, by rw [List.length_append]; omega, by rw [List.length_append, h.kinds]; rfl, fun hlt => ?_, fun he => ?_⟩
  · rw [decide_eq_false (by omega)]
    exact (h.reads hj).next p said hp
  · rw [decide_eq_true (by omega)]
    exact fun B most hB hst hl hw => (h.reads hj).last p said hp B most hB hst hl hw
/-- The text of all blocks. -/
theorem Say11.text {n : Nat} {bl out : List UInt8} {ks : List Nat} (h : Say11 n n bl out ks) {t : ByteArray} (ht : TextIs bl t) : mStream (bitsOf t.data.toList) (out.length : Int) = (0, bl.length, out, ks) := by
  refine h.fin rfl _ _ (bitsOf_bits _) (Stand.of_le h.bits ht.2) ?_ (Int.le_refl _)
  have e : t.data.toList.length = t.size := rfl
  rw [bitsOf_length, e, ht.1]
  omega
end Go.Proofs.YtjlkjebmilfgoaaGreat

/- Layer 11: blocks written one behind the other, by the program: the writer, and what it leaves alone. -/
namespace Go.Proofs.YtjlkjebmilfgoaaGreat
open Go.RowKit

/-- A writer of the call's own that holds the bits bl, apart from X. -/
structure LAt (w : World) (b : Nat) (bl : List UInt8) (X : Nat → Prop) (wx : World) : Prop where
  wf : ∃ F, Wf wx b F bl ∧ (∀ q, F q → w.heap.size ≤ q) ∧ ∀ q, X q → ¬ F q
  only : Only (fun _ => False) w wx
section
variable {w wx wy : World} {b : Nat} {bl : List UInt8} {X Y : Nat → Prop}
theorem LAt.fresh (h : LAt w b bl X wx) (k : Only X wx wy) (hw : ∀ q, X q → w.heap.size ≤ q) (hY : ∀ q, Y q → X q ∨ wx.heap.size ≤ q) : LAt w b bl Y wy := by
  obtain ⟨⟨F, h1, h2, h3⟩, h4⟩ := h
  refine ⟨⟨_, h1.tight.far k fun q hq hx => h3 q hx hq.1, fun q hq => h2 q hq.1, fun q hq hf => ?_⟩, h4.andThen k fun q hq => .inr (hw q hq)⟩
  rcases hY q hq with e | e
  · exact h3 q e hf.1
  · have := hf.2
    omega
theorem LAt.new (h : LAt w b bl X wx) (k : Only (fun _ => False) wx wy) : LAt w b bl X wy := by
  obtain ⟨⟨F, h1, h2, h3⟩, h4⟩ := h
  exact ⟨⟨F, h1.new k, h2, h3⟩, h4.trans k⟩
theorem LAt.add (h : LAt w b bl X wx) (k : Only (fun _ => False) wx wy) (hY : ∀ q, Y q → X q ∨ wx.heap.size ≤ q) : LAt w b bl Y wy := by
  obtain ⟨⟨F, h1, h2, h3⟩, h4⟩ := h
  refine ⟨⟨_, h1.tight.new k, fun q hq => h2 q hq.1, fun q hq hf => ?_⟩, h4.trans k⟩
  rcases hY q hq with e | e
  · exact h3 q e hf.1
  · have := hf.2
    omega
/-- What a call leaves that has written. -/
def LPut (w : World) (b : Nat) (bl : List UInt8) (X : Nat → Prop) (wx : World) (e : Ending) (wy : World) : Prop := e = .returned (.int .i64 0) ∧ LAt w b bl X wy ∧ Only (fun q => ¬ X q) wx wy
theorem LAt.put {bl' : List UInt8} {F : Nat → Prop} {e : Ending} (h4 : Only (fun _ => False) w wx) (h2 : ∀ q, F q → w.heap.size ≤ q) (h3 : ∀ q, X q → ¬ F q) (hX : ∀ q, X q → q < wx.heap.size) (k : StP wx b F bl' e wy) : LPut w b bl' X wx e wy := by
  obtain ⟨rfl, k1, k2⟩ := k
  refine ⟨rfl, ⟨⟨_, k1, fun q hq => ?_, fun q hq hf => ?_⟩, h4.andThen k2 fun q hq => .inr (h2 q hq)⟩, k2.mono fun q hq hx => h3 q hx hq⟩
  · rcases hq with e | e
    · exact h2 q e
    · exact Nat.le_trans h4.size e
  · rcases hf with e | e
    · exact h3 q hq e
    · have := hX q hq
      omega
theorem lstored (S : ByteArray) (last : Bool) (h : LAt w b bl X wx) (hX : ∀ q, X q → q < wx.heap.size) (hbl : bl.length ≤ 100000) (hs : S.size ≤ 60) :
    Calls Tryz.prog 8 #[.pointer (some ⟨b, 0, none⟩), .string S, .bool last] wx (LPut w b (storedB bl S last) X wx) := by
  obtain ⟨⟨F, h1, h2, h3⟩, h4⟩ := h
  exact (stored b S last F bl wx h1 (by omega) (by omega)).mono fun e wy k => LAt.put h4 h2 h3 hX k
theorem see_far {A : Option Addr} {ts : List Tk} (hs : See w w.heap.size A (tks ts)) {F : Nat → Prop} (h4 : Only (fun _ => False) w wx) (h2 : ∀ q, F q → w.heap.size ≤ q) : ts ≠ [] → ∀ j, Lies A j → ¬ F j ∧ j < wx.heap.size := fun h0 j hj => by
  obtain ⟨t, r, rfl⟩ := List.exists_cons_of_ne_nil h0
  obtain ⟨bb, off, e1, e2, _⟩ := hs.token 0 t rfl
  obtain ⟨ad, e3, e4⟩ := hj
  rw [e1] at e3
  obtain rfl := Option.some.inj e3
  subst e4
  exact ⟨fun hf => by have := h2 _ hf; simp only at this; omega, by have := h4.size; simp only; omega⟩
theorem lplain (A : Option Addr) (n c : Nat) (ts : List Tk) (last : Bool) (h : LAt w b bl X wx) (hX : ∀ q, X q → q < wx.heap.size) (hbl : bl.length ≤ 100000) (hs : See w w.heap.size A (tks ts)) (hn : ts.length = n) (hb : n ≤ 40) (hm : allB ts = true) :
    Calls Tryz.prog 12 #[.pointer (some ⟨b, 0, none⟩), .slice A n c, .bool last] wx (LPut w b (bl ++ plainB ts last) X wx) := by
  obtain ⟨⟨F, h1, h2, h3⟩, h4⟩ := h
  exact (plain b F bl A n c _ ts last wx h1 (hs.new h4) (see_far hs h4 h2) hn (by omega) (by omega) hm).mono fun e wy k => LAt.put h4 h2 h3 hX k
theorem lown (A : Option Addr) (n c : Nat) (ts : List Tk) (last : Bool) (h : LAt w b bl X wx) (hX : ∀ q, X q → q < wx.heap.size) (hbl : bl.length ≤ 100000) (hs : See w w.heap.size A (tks ts)) (hn : ts.length = n) (hb : n ≤ 40) (hm : allB ts = true) :
    Calls Tryz.prog 14 #[.pointer (some ⟨b, 0, none⟩), .slice A n c, .bool last] wx fun e wy => LPut w b (bl ++ ownBits ts last) X wx e wy ∧ Packed ts := by
  obtain ⟨⟨F, h1, h2, h3⟩, h4⟩ := h
  exact (own2 b F bl A n c _ ts last wx h1 (hs.new h4) (see_far hs h4 h2) hn (by omega) (by omega) hm).mono fun e wy k => ⟨LAt.put h4 h2 h3 hX k.1, k.2⟩
end
/-- The document reads the blocks back. -/
theorem read_back {n : Nat} {bl out : List UInt8} {ks : List Nat} (h : Say11 n n bl out ks) (hn : n ≤ 6) (t W : ByteArray) (ht : TextIs bl t) (hW : W.data.toList = out) (wx : World) :
    Calls Tryz.prog 19 #[.string t, .int .i64 (W.size : Nat)] wx fun e w' => ∃ Ak ck, e = .returned (.tuple #[.string W, .int .i64 (t.size : Nat), .slice Ak n ck, .int .i64 0]) ∧ See w' w'.heap.size Ak (ints ks) ∧ Only (fun _ => False) wx w' := by
  have h1 := h.text ht
  have e1 : out.length = W.size := by rw [← hW]; rfl
  rw [e1] at h1
  have h2 := h.len
  have h3 := h.said
  have h4 := ht.1
  refine (dstream t (W.size : Nat) wx (by omega) (by omega)).mono ?_
  rw [h1]
  rintro e w' ⟨Ak, ck, rfl, hs, ho⟩
  have e2 : mKinds (0, bl.length, out, ks) = ks := rfl
  have e3 : mTaken (0, bl.length, out, ks) = t.size := by rw [h4]; rfl
  have e4 : mText (0, bl.length, out, ks) = W := by
    show (⟨out.toArray⟩ : ByteArray) = W
    rw [← hW]
  rw [e2] at hs
  refine ⟨Ak, ck, ?_, hs, ho⟩
  rw [e2, e3, e4, h.kinds]
  rfl
theorem expandF_all (M : Int) : ∀ (l : List Tk) (out want : List UInt8), expandF M l out = (want, 0) → allB l = true
  | [], _, _, _ => rfl
  | t :: l, out, want, h => by
    obtain ⟨h1, _, h3⟩ := expandF_cons M t l out want h
    have h4 := expandF_all M l _ _ h3
    unfold allB at h4 ⊢
    rw [List.all_cons, h1, h4]
    rfl
end Go.Proofs.YtjlkjebmilfgoaaGreat
