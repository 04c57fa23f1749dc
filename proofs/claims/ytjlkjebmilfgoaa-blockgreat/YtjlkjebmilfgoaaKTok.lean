/- Layers 7 and 11: tokens that may be; their symbols, and their bits by two codes. -/
import Derived.Test.YtjlkjebmilfgoaaTLaid
import Derived.Test.YtjlkjebmilfgoaaKW
namespace Go.Proofs.Ytjlkjebmilfgoaa
open Go.RowKit


set_option maxHeartbeats 1000000 in
theorem may (t : Tk) (w : World) : Calls Try.prog 25 #[tkV t] w (MayPost t w) := by
  obtain ⟨b, n, k⟩ := t
  have h0 := may_n0 b n k
  have h1 := may_n1 b n k
  unfold MayPost tkV
  obtain ⟨r, hr⟩ : ∃ r, mayB ⟨b, n, k⟩ = r := ⟨_, rfl⟩
  obtain ⟨y, hy⟩ : ∃ y, b.toNat = y := ⟨_, rfl⟩
  simp only [hr, hy] at h0 h1 ⊢
  clear hr hy
  have HO := Lib.hid ((Only.refl (fun _ => False) w).alloc (.cells #[.int .u8 y, .int .i64 n, .int .i64 k] 63))
  by_cases hn : n = 0
  · have h2 := h0 hn
    clear h0 h1
    subst hn
    by_cases hk : k = 0
    · subst hk
      obtain rfl : r = true := by simpa using h2
      clear h2
      go_enter Try.func25, Try.ntmps25
      go_wp2
      go_ret
      exact ⟨rfl, HO.out⟩
    · obtain rfl : r = false := by simpa [hk] using h2
      clear h2
      have hk2 : (k == 0) = false := by simp [hk]
      go_enter Try.func25, Try.ntmps25
      go_wp2
      go_ret
      exact ⟨rfl, HO.out⟩
  · have h2 := h1 hn
    clear h0 h1
    obtain ⟨p, hp⟩ : ∃ p, isLen n = p := ⟨_, rfl⟩
    obtain ⟨q, hq⟩ : ∃ q, isDist k = q := ⟨_, rfl⟩
    rw [hp, hq] at h2
    have HP := Lib.hid hp
    have HQ := Lib.hid hq
    have HR := Lib.hid h2
    clear hp hq h2
    cases p with
    | false =>
      obtain rfl : r = false := by simpa using HR.out
      clear HR
      go_enter Try.func25, Try.ntmps25
      go_wp2_with (first
        | (go_at_call 40; refine (isLength _ _).mono ?_; rintro e w' ⟨rfl, rfl⟩; rw [HP.out])
        | (go_at_call 41; refine (isDistance _ _).mono ?_; rintro e w' ⟨rfl, rfl⟩; rw [HQ.out]))
      go_ret
      exact ⟨rfl, HO.out⟩
    | true =>
      cases q with
      | false =>
        obtain rfl : r = false := by simpa using HR.out
        clear HR
        go_enter Try.func25, Try.ntmps25
        go_wp2_with (first
          | (go_at_call 40; refine (isLength _ _).mono ?_; rintro e w' ⟨rfl, rfl⟩; rw [HP.out])
          | (go_at_call 41; refine (isDistance _ _).mono ?_; rintro e w' ⟨rfl, rfl⟩; rw [HQ.out]))
        go_ret
        exact ⟨rfl, HO.out⟩
      | true =>
        by_cases hy : y = 0
        · subst hy
          obtain rfl : r = true := by simpa using HR.out
          clear HR
          go_enter Try.func25, Try.ntmps25
          go_wp2_with (first
            | (go_at_call 40; refine (isLength _ _).mono ?_; rintro e w' ⟨rfl, rfl⟩; rw [HP.out])
            | (go_at_call 41; refine (isDistance _ _).mono ?_; rintro e w' ⟨rfl, rfl⟩; rw [HQ.out]))
          go_ret
          exact ⟨rfl, HO.out⟩
        · obtain rfl : r = false := by simpa [hy] using HR.out
          clear HR
          have hy2 : ((y : Int) == 0) = false := by simp; omega
          go_enter Try.func25, Try.ntmps25
          go_wp2_with (first
            | (go_at_call 40; refine (isLength _ _).mono ?_; rintro e w' ⟨rfl, rfl⟩; rw [HP.out])
            | (go_at_call 41; refine (isDistance _ _).mono ?_; rintro e w' ⟨rfl, rfl⟩; rw [HQ.out]))
          go_ret
          exact ⟨rfl, HO.out⟩


/-- All tokens may be. -/
def allB (ts : List Tk) : Bool := ts.all mayB
set_option maxHeartbeats 1000000 in
theorem allMay (A : Option Addr) (n c B : Nat) (ts : List Tk) (w : World) (h : See w B A (tks ts)) (hn : ts.length = n) (hb : n ≤ 30000) :
    Calls Try.prog 14 #[.slice A n c] w fun e w' => e = .returned (.bool (allB ts)) ∧ Only (fun _ => False) w w' := by
  have HS := Lib.hid h
  have HN := Lib.hid hn
  obtain ⟨R, hR⟩ : ∃ R, allB ts = R := ⟨_, rfl⟩
  have HR := Lib.hid hR
  rw [hR]
  clear h hn hR
  go_enter Try.func14, Try.ntmps14
  go_wp2_with fail
  go_loopg [7] n (fun gk i wx => ∃ k : Nat, i = .int .i64 k ∧ k + gk ≤ n ∧ n ≤ k + gk ∧ Hid (Only (fun _ => False) w wx) ∧ Hid ((ts.take k).all mayB = true))
  case atStart => exact ⟨0, rfl, by omega, by omega, Lib.hid (Only.refl _ w), Lib.hid rfl⟩
  case round =>
    obtain ⟨k, rfl, hk, hk2, HO, HA⟩ := hrel
    by_cases hlt : k < n
    · obtain ⟨t, ht⟩ : ∃ t, ts[k]? = some t := ⟨ts[k]'(by rw [HN.out]; exact hlt), by simp [HN.out, hlt]⟩
      obtain ⟨b, off, rfl, _, c0, c1, c2⟩ := (HS.out.new HO.out).token k t ht
      have htk : (ts.take (k + 1)).all mayB = ((ts.take k).all mayB && mayB t) := by
        rw [List.take_add_one, ht]
        simp
      have hall : mayB t = false → allB ts = false := fun h => by
        unfold allB
        rw [List.all_eq_false]
        exact ⟨t, List.mem_of_getElem? ht, by simp [h]⟩
      obtain ⟨tb, tn, tkk⟩ := t
      simp only at c0 c1 c2
      obtain ⟨y, hy⟩ : ∃ y, tb.toNat = y := ⟨_, rfl⟩
      have HM : Hid (∀ wx, Calls Try.prog 25 #[.agg #[.int .u8 y, .int .i64 tn, .int .i64 tkk]] wx (MayPost ⟨tb, tn, tkk⟩ wx)) := Lib.hid fun wx => by
        have := may ⟨tb, tn, tkk⟩ wx
        simp only [tkV, hy] at this
        exact this
      rw [hy] at c0
      obtain ⟨wa, hwa⟩ : ∃ wa, wr.alloc (.cells #[.int .u8 y, .int .i64 tn, .int .i64 tkk] 63) = wa := ⟨_, rfl⟩
      have hoa : Only (fun _ => False) wr wa := by rw [← hwa]; exact (Only.refl _ wr).alloc _
      obtain ⟨g, hg⟩ : ∃ g, wr.heap.size = g := ⟨_, rfl⟩
      have hIa : Is wa g 63 [.int .u8 y, .int .i64 tn, .int .i64 tkk] := by rw [← hwa, ← hg]; exact Is.new wr _ _
      have d0 := hIa.cell 0 rfl
      have d1 := hIa.cell 1 rfl
      have d2 := hIa.cell 2 rfl
      have HOA := Lib.hid (HO.out.trans hoa)
      clear hoa hIa
      cases hm : mayB ⟨tb, tn, tkk⟩ with
      | true =>
        have HA2 : Hid ((ts.take (k + 1)).all mayB = true) := Lib.hid (by rw [htk, HA.out, hm]; rfl)
        have HM2 : Hid (Calls Try.prog 25 #[.agg #[.int .u8 y, .int .i64 tn, .int .i64 tkk]] wa fun e w' => e = .returned (.bool true) ∧ Only (fun _ => False) wa w') := Lib.hid ((HM.out wa).mono fun e w' h => by rw [MayPost, hm] at h; exact h)
        clear htk hall hm HM hy
        go_wp2_with fail
        refine HM2.out.mono ?_
        rintro e w2 ⟨rfl, o2⟩
        have HO2 := Lib.hid (HOA.out.trans o2)
        clear o2 HM2
        go_wp2_with fail
        go_roundg (gk - 1)
        case measure => omega
        case rel => exact ⟨k + 1, by go_num, by omega, by omega, HO2, HA2⟩
      | false =>
        have hRf : R = false := by rw [← HR.out]; exact hall hm
        have HM2 : Hid (Calls Try.prog 25 #[.agg #[.int .u8 y, .int .i64 tn, .int .i64 tkk]] wa fun e w' => e = .returned (.bool false) ∧ Only (fun _ => False) wa w') := Lib.hid ((HM.out wa).mono fun e w' h => by rw [MayPost, hm] at h; exact h)
        clear htk hall hm HM hy HR
        subst hRf
        go_wp2_with fail
        refine HM2.out.mono ?_
        rintro e w2 ⟨rfl, o2⟩
        have HO2 := Lib.hid (HOA.out.trans o2)
        clear o2 HM2
        go_wp2
        go_ret
        exact ⟨rfl, HO2.out⟩
    · obtain rfl : k = n := by omega
      have hRt : R = true := by
        rw [← HR.out]
        have := HA.out
        rw [List.take_of_length_le (by rw [HN.out]; exact Nat.le_refl _)] at this
        exact this
      clear HR HA
      subst hRt
      go_wp2
      go_ret
      exact ⟨rfl, HO.out⟩

/-- Which row holds a number. -/
def rowOf (f : Nat → Nat) (k n : Nat) : Nat := ((List.range k).find? fun s => decide (f s ≤ n) && decide (n < f (s + 1))).getD 0
theorem rowOf_is (f : Nat → Nat) (k n : Nat) (h0 : f 0 ≤ n) (hk : n < f k) : rowOf f k n < k ∧ f (rowOf f k n) ≤ n ∧ n < f (rowOf f k n + 1) := by
  obtain ⟨s, hs, h1, h2⟩ := between f n h0 k hk
  unfold rowOf
  cases hf : (List.range k).find? fun s => decide (f s ≤ n) && decide (n < f (s + 1)) with
  | none =>
    have := List.find?_eq_none.1 hf s (List.mem_range.2 hs)
    simp [h1, h2] at this
  | some r =>
    have h3 := List.find?_some hf
    have h4 := List.mem_range.1 (List.mem_of_find?_eq_some hf)
    simp only [Bool.and_eq_true, decide_eq_true_eq] at h3
    exact ⟨h4, h3.1, h3.2⟩
/-- A length's symbol, how many bits are behind it, the number in them. -/
def lenT (n : Int) : Nat × Nat × Nat := if n = 258 then (285, 0, 0) else (257 + rowOf lf 28 n.toNat, lb (rowOf lf 28 n.toNat), n.toNat - lf (rowOf lf 28 n.toNat))
def distT (n : Int) : Nat × Nat × Nat := (rowOf df 30 n.toNat, db (rowOf df 30 n.toNat), n.toNat - df (rowOf df 30 n.toNat))
theorem lbT_le : ∀ s : Fin 28, lb s.val ≤ 5 := by decide +kernel
theorem dbT_le : ∀ s : Fin 30, db s.val ≤ 13 := by decide +kernel
theorem lenT_is (n : Int) (h3 : 3 ≤ n) (h : n ≤ 258) : LenIs n (lenT n).1 (lenT n).2.1 (lenT n).2.2 true ∧ 257 ≤ (lenT n).1 ∧ (lenT n).1 ≤ 285 ∧ (lenT n).2.1 ≤ 5 ∧ (lenT n).2.2 < 2 ^ (lenT n).2.1 := by
  unfold lenT
  by_cases h1 : n = 258
  · subst h1
    rw [if_pos rfl]
    exact ⟨.last, by decide, by decide, by decide, by decide⟩
  · rw [if_neg h1]
    obtain ⟨x, rfl⟩ : ∃ x : Nat, n = x := ⟨n.toNat, by omega⟩
    rw [Int.toNat_natCast]
    obtain ⟨r1, r2, r3⟩ := rowOf_is lf 28 x (by show 3 ≤ x; omega) (by rw [lf28]; omega)
    generalize rowOf lf 28 x = s at r1 r2 r3 ⊢
    rw [lf] at r3
    have h2 := LenIs.row s (x - lf s) r1 (by omega) (by omega)
    rw [show lf s + (x - lf s) = x from by omega] at h2
    have := lbT_le ⟨s, r1⟩
    exact ⟨h2, by omega, by show 257 + s ≤ 285; omega, this, by show x - lf s < 2 ^ lb s; omega⟩
theorem distT_is (n : Int) (h3 : 1 ≤ n) (h : n ≤ 32768) : DistIs n (distT n).1 (distT n).2.1 (distT n).2.2 true ∧ (distT n).1 < 30 ∧ (distT n).2.1 ≤ 13 ∧ (distT n).2.2 < 2 ^ (distT n).2.1 := by
  unfold distT
  obtain ⟨x, rfl⟩ : ∃ x : Nat, n = x := ⟨n.toNat, by omega⟩
  rw [Int.toNat_natCast]
  obtain ⟨r1, r2, r3⟩ := rowOf_is df 30 x (by show 1 ≤ x; omega) (by rw [df30]; omega)
  generalize rowOf df 30 x = s at r1 r2 r3 ⊢
  rw [df] at r3
  have h2 := DistIs.row s (x - df s) r1 (by omega)
  rw [show df s + (x - df s) = x from by omega] at h2
  have := dbT_le ⟨s, r1⟩
  exact ⟨h2, r1, this, by show x - df s < 2 ^ db s; omega⟩
theorem may_far (t : Tk) (h : mayB t = true) (hn : ¬ t.n = 0) : 3 ≤ t.n ∧ t.n ≤ 258 ∧ 1 ≤ t.k ∧ t.k ≤ 32768 := by
  obtain ⟨b, n, k⟩ := t
  rw [may_n1 b n k hn] at h
  simp only [isLen, isDist, Bool.and_eq_true, decide_eq_true_eq] at h
  exact ⟨h.1.1.1, h.1.1.2, h.1.2.1, h.1.2.2⟩
/-- The bits of a token. -/
def tokB (la lb : List Nat) (t : Tk) : List UInt8 :=
  if t.n = 0 then code la t.b.toNat else code la (lenT t.n).1 ++ (nb (lenT t.n).2.2 (lenT t.n).2.1 ++ (code lb (distT t.k).1 ++ nb (distT t.k).2.2 (distT t.k).2.1))
/-- The bits of tokens, and of the end. -/
def encB (la lb : List Nat) (ts : List Tk) : List UInt8 := ts.flatMap (tokB la lb) ++ code la 256
/-- Each symbol that is needed has a code. -/
def FitsT (la lb : List Nat) (t : Tk) : Prop := if t.n = 0 then Has la t.b.toNat else Has la (lenT t.n).1 ∧ Has lb (distT t.k).1
theorem tokB_length (la lb : List Nat) (t : Tk) (ha : Low la) (hb : Low lb) (h : mayB t = true) : (tokB la lb t).length ≤ 60 := by
  unfold tokB
  split
  · rw [code_length]
    exact Nat.le_trans (ln_le la _ ha) (by decide)
  · rename_i hn
    obtain ⟨h1, h2, h3, h4⟩ := may_far t h hn
    obtain ⟨_, _, _, q1, _⟩ := lenT_is t.n h1 h2
    obtain ⟨_, _, q2, _⟩ := distT_is t.k h3 h4
    have := ln_le la (lenT t.n).1 ha
    have := ln_le lb (distT t.k).1 hb
    rw [List.length_append, List.length_append, List.length_append, code_length, code_length, nb_length, nb_length]
    omega

/-- Two tables, whole; all that they lead to lies from lo up to hi. -/
structure Cod2 (w : World) (lo hi T1 T2 : Nat) (la lb : List Nat) : Prop where
  t1 : Tab2 w lo T1 la
  t2 : Tab2 w lo T2 lb
  h1 : T1 ≤ hi
  h2 : T2 ≤ hi
  hh : hi < w.heap.size
  l1 : Low la
  l2 : Low lb
theorem Cod2.keep {w w' : World} {lo hi T1 T2 : Nat} {la lb : List Nat} {X : Nat → Prop} (h : Cod2 w lo hi T1 T2 la lb) (k : Only X w w') (hd : ∀ j, lo ≤ j → j ≤ hi → ¬ X j) : Cod2 w' lo hi T1 T2 la lb :=
  ⟨h.t1.keep k fun j a b => hd j a (Nat.le_trans b h.h1), h.t2.keep k fun j a b => hd j a (Nat.le_trans b h.h2), h.h1, h.h2, Nat.lt_of_lt_of_le h.hh k.size, h.l1, h.l2⟩
theorem Cod2.new {w w' : World} {lo hi T1 T2 : Nat} {la lb : List Nat} (h : Cod2 w lo hi T1 T2 la lb) (k : Only (fun _ => False) w w') : Cod2 w' lo hi T1 T2 la lb := h.keep k fun _ _ _ f => f
end Go.Proofs.Ytjlkjebmilfgoaa
