/- Layer 11, the program: a block of kind 2; blocks take as many bits as is told. -/
import Derived.Test.YtjlkjebmilfgoaaGreatKHS
import Derived.Test.YtjlkjebmilfgoaaGreatKMW
/- Layer 11: how many bits tokens take, and how often each symbol comes. -/
namespace Go.Proofs.YtjlkjebmilfgoaaGreat
open Go.RowKit

theorem sumTo_one (f : Nat → Nat) (i x : Nat) : ∀ k, sumTo k (fun j => f j + if j = i then x else 0) = sumTo k f + if i < k then x else 0
  | 0 => by simp [sumTo]
  | k + 1 => by
    rw [sumTo, sumTo, sumTo_one f i x k]
    by_cases h1 : i < k
    · rw [if_pos h1, if_neg (by omega), if_pos (by omega)]
      omega
    · by_cases h2 : k = i
      · rw [if_neg h1, if_pos h2, if_pos (by omega)]
        omega
      · rw [if_neg h1, if_neg h2, if_neg (by omega)]
        omega
theorem dot_up (L l : List Nat) (i x k : Nat) (hi : i < L.length) : dot (up L i x) l k = dot L l k + if i < k then x * ln l i else 0 := by
  have h := sumTo_one (fun j => ln L j * ln l j) i (x * ln l i) k
  unfold dot
  rw [← h]
  refine sumTo_congr fun j _ => ?_
  rw [ln_up _ _ _ _ hi, Nat.add_mul]
  by_cases h2 : j = i
  · subst h2; rw [if_pos rfl, if_pos rfl]
  · rw [if_neg h2, if_neg h2, Nat.zero_mul]
theorem dot2_up (L l : List Nat) (i x k : Nat) (hi : i < L.length) : dot ((up L i x).drop 286) l k = dot (L.drop 286) l k + if 286 ≤ i ∧ i < 286 + k then x * ln l (i - 286) else 0 := by
  have h := sumTo_one (fun j => ln (L.drop 286) j * ln l j) (i - 286) (if 286 ≤ i then x * ln l (i - 286) else 0) k
  unfold dot
  have e : (if 286 ≤ i ∧ i < 286 + k then x * ln l (i - 286) else 0) = if i - 286 < k then (if 286 ≤ i then x * ln l (i - 286) else 0) else 0 := by
    by_cases h1 : 286 ≤ i
    · by_cases h2 : i < 286 + k
      · rw [if_pos ⟨h1, h2⟩, if_pos (by omega), if_pos h1]
      · rw [if_neg (fun q => h2 q.2), if_neg (by omega)]
    · rw [if_neg (fun q => h1 q.1), if_neg h1]
      split <;> rfl
  rw [e, ← h]
  refine sumTo_congr fun j _ => ?_
  rw [ln_drop, ln_drop, ln_up _ _ _ _ hi, Nat.add_mul]
  by_cases h1 : 286 ≤ i
  · by_cases h2 : 286 + j = i
    · rw [if_pos h2, if_pos (by omega), if_pos h1, show i - 286 = j by omega]
    · rw [if_neg h2, if_neg (by omega), Nat.zero_mul]
  · rw [if_neg (by omega), if_neg h1, Nat.zero_mul, ite_self]
theorem size_up (la lb L : List Nat) (i x : Nat) (hL : L.length = 317) (hi : i < 317) : sizeF la lb (up L i x) = sizeF la lb L + if i < 286 then x * ln la i else if i < 316 then x * ln lb (i - 286) else x := by
  unfold sizeF
  rw [dot_up _ _ _ _ _ (by omega), dot2_up _ _ _ _ _ (by omega), ln_up _ _ _ _ (by omega)]
  repeat' split
  all_goals omega
theorem size_tok (la lb L : List Nat) (t : Tk) (hm : mayB t = true) (hL : L.length = 317) : sizeF la lb (talT L t) = sizeF la lb L + (tokB la lb t).length := by
  unfold talT tokB
  split
  · have := t.b.toNat_lt
    rw [size_up _ _ _ _ _ hL (by omega), if_pos (by omega), code_length, Nat.one_mul]
  · rename_i hn
    obtain ⟨h1, h2, h3, h4⟩ := may_far t hm hn
    obtain ⟨_, q1, q2, q3, _⟩ := lenT_is t.n h1 h2
    obtain ⟨_, r1, r2, _⟩ := distT_is t.k h3 h4
    rw [size_up _ _ _ _ _ (by rw [up_length, up_length, hL]) (by decide), size_up _ _ _ _ _ (by rw [up_length, hL]) (by omega), size_up _ _ _ _ _ hL (by omega)]
    rw [if_pos (by omega), if_neg (by omega), if_pos (by omega), if_neg (by decide), if_neg (by decide)]
    rw [List.length_append, List.length_append, List.length_append, code_length, code_length, nb_length, nb_length, Nat.add_sub_cancel_left]
    omega
theorem size_fold (la lb : List Nat) : ∀ (ts : List Tk) (L : List Nat), (∀ t ∈ ts, mayB t = true) → L.length = 317 → sizeF la lb (ts.foldl talT L) = sizeF la lb L + (ts.flatMap (tokB la lb)).length
  | [], L, _, _ => by simp
  | t :: r, L, hm, hL => by
    rw [List.foldl_cons, size_fold la lb r _ (fun x hx => hm x (List.mem_cons_of_mem _ hx)) (by rw [talT_length, hL]), size_tok la lb L t (hm t List.mem_cons_self) hL, List.flatMap_cons, List.length_append]
    omega
theorem size_zero (la lb : List Nat) : sizeF la lb tal0 = 0 := by
  have h0 : ∀ i, ln tal0 i = 0 := fun i => by
    unfold ln tal0
    rw [List.getD_eq_getElem?_getD, List.getElem?_replicate]
    split <;> rfl
  have hz : ∀ (f : Nat → Nat), (∀ i, f i = 0) → ∀ k, sumTo k f = 0 := fun f hf k => by
    induction k with
    | zero => rfl
    | succ k ih => rw [sumTo, ih, hf]
  unfold sizeF dot
  rw [h0, hz _ (fun i => by rw [h0, Nat.zero_mul]), hz _ (fun i => by rw [ln_drop, h0, Nat.zero_mul])]
/-- Tokens and the end take as many bits as is told. -/
theorem enc_size (la lb : List Nat) (ts : List Tk) (hm : allB ts = true) : (encB la lb ts).length = sizeF la lb (talF ts) := by
  have hmay : ∀ t ∈ ts, mayB t = true := fun t ht => List.all_eq_true.1 hm t ht
  have h := size_fold la lb ts tal0 hmay (by rw [tal0, List.length_replicate])
  rw [size_zero, Nat.zero_add] at h
  unfold encB talF
  rw [size_up _ _ _ _ _ (talTo_length ts) (by decide), if_pos (by decide), Nat.one_mul, List.length_append, code_length]
  unfold talTo
  rw [h]
theorem plain_size (ts : List Tk) (last : Bool) (hm : allB ts = true) : (plainB ts last).length = plainN ts := by
  unfold plainB plainN
  rw [List.length_append, headB_length, enc_size _ _ _ hm]
end Go.Proofs.YtjlkjebmilfgoaaGreat

/- Layer 11: the codes of tokens' own have what the tokens need. -/
namespace Go.Proofs.YtjlkjebmilfgoaaGreat
open Go.RowKit

theorem has_trim (l : List Nat) (least s : Nat) (h : 0 < ln l s) : Has (trimF l least) s := by
  refine ⟨?_, by rw [ln_trimF]; exact h⟩
  rcases Nat.lt_or_ge s (trimF l least).length with h1 | h1
  · exact h1
  · rw [trimF_length] at h1
    have := trim_zero l least s h1
    omega
theorem hasOwnA {L : List Nat} (hL : L.length = 317) (s : Nat) (hs : s < 286) (h : 0 < ln L s) : Has (ownA L) s :=
  has_trim _ _ _ (((goodA hL).pos s).2 (by rw [ln_take _ _ _ hs]; exact h))
theorem hasOwnB {L : List Nat} (hL : L.length = 317) (s : Nat) (hs : s < 30) (h : 0 < ln L (286 + s)) : Has (ownB L) s :=
  has_trim _ _ _ (((goodB hL).pos s).2 (by rw [ln_take _ _ _ hs, ln_drop]; exact h))
theorem talT_mono (l : List Nat) (t : Tk) (hm : mayB t = true) (hl : l.length = 317) (i : Nat) : ln l i ≤ ln (talT l t) i := by
  unfold talT
  split
  · rw [ln_up _ _ _ _ (by have := t.b.toNat_lt; omega)]
    omega
  · rename_i hn
    obtain ⟨h1, h2, h3, h4⟩ := may_far t hm hn
    obtain ⟨_, q1, q2, q3, _⟩ := lenT_is t.n h1 h2
    obtain ⟨_, r1, r2, _⟩ := distT_is t.k h3 h4
    rw [ln_up _ _ _ _ (by rw [up_length, up_length]; omega), ln_up _ _ _ _ (by rw [up_length]; omega), ln_up _ _ _ _ (by omega)]
    omega
theorem fold_mono : ∀ (ts : List Tk) (l : List Nat), (∀ t ∈ ts, mayB t = true) → l.length = 317 → ∀ i, ln l i ≤ ln (ts.foldl talT l) i
  | [], _, _, _, _ => Nat.le_refl _
  | t :: r, l, hm, hl, i => by
    rw [List.foldl_cons]
    exact Nat.le_trans (talT_mono l t (hm t List.mem_cons_self) hl i) (fold_mono r _ (fun x hx => hm x (List.mem_cons_of_mem _ hx)) (by rw [talT_length, hl]) i)
theorem fold_pos : ∀ (ts : List Tk) (l : List Nat) (t : Tk) (i : Nat), (∀ t ∈ ts, mayB t = true) → l.length = 317 → t ∈ ts → (∀ l : List Nat, l.length = 317 → 0 < ln (talT l t) i) → 0 < ln (ts.foldl talT l) i
  | [], _, _, _, _, _, h, _ => by cases h
  | x :: r, l, t, i, hm, hl, ht, hp => by
    rw [List.foldl_cons]
    have hr : ∀ y ∈ r, mayB y = true := fun y hy => hm y (List.mem_cons_of_mem _ hy)
    have hl2 : (talT l x).length = 317 := by rw [talT_length, hl]
    rcases List.mem_cons.1 ht with rfl | h
    · exact Nat.lt_of_lt_of_le (hp l hl) (fold_mono r _ hr hl2 i)
    · exact fold_pos r _ t i hr hl2 h hp
theorem talF_ge (ts : List Tk) (i : Nat) : ln (talTo ts) i ≤ ln (talF ts) i := by
  unfold talF
  rw [ln_up _ _ _ _ (by rw [talTo_length]; decide)]
  omega
theorem talF_end (ts : List Tk) : 0 < ln (talF ts) 256 := by
  unfold talF
  rw [ln_up _ _ _ _ (by rw [talTo_length]; decide), if_pos rfl]
  omega
theorem fits_own (ts : List Tk) (hm : allB ts = true) : FitsAll (ownA (talF ts)) (ownB (talF ts)) ts := by
  have hmay : ∀ t ∈ ts, mayB t = true := fun t ht => List.all_eq_true.1 hm t ht
  have hL := talF_length ts
  have h0 : tal0.length = 317 := by rw [tal0, List.length_replicate]
  refine ⟨hasOwnA hL 256 (by decide) (talF_end ts), fun t ht => ?_⟩
  have hmt := hmay t ht
  unfold FitsT
  split
  · rename_i hn
    have hb := t.b.toNat_lt
    refine hasOwnA hL _ (by omega) (Nat.lt_of_lt_of_le (fold_pos ts tal0 t _ hmay h0 ht fun l hl => ?_) (talF_ge ts _))
    unfold talT
    rw [if_pos hn, ln_up _ _ _ _ (by omega), if_pos rfl]
    omega
  · rename_i hn
    obtain ⟨h1, h2, h3, h4⟩ := may_far t hmt hn
    obtain ⟨_, q1, q2, q3, _⟩ := lenT_is t.n h1 h2
    obtain ⟨_, r1, r2, _⟩ := distT_is t.k h3 h4
    refine ⟨hasOwnA hL _ (by omega) (Nat.lt_of_lt_of_le (fold_pos ts tal0 t _ hmay h0 ht fun l hl => ?_) (talF_ge ts _)), hasOwnB hL _ (by omega) (Nat.lt_of_lt_of_le (fold_pos ts tal0 t _ hmay h0 ht fun l hl => ?_) (talF_ge ts _))⟩
    · unfold talT
      rw [if_neg hn, ln_up _ _ _ _ (by rw [up_length, up_length]; omega), ln_up _ _ _ _ (by rw [up_length]; omega), ln_up _ _ _ _ (by omega), if_pos rfl]
      omega
    · unfold talT
      rw [if_neg hn, ln_up _ _ _ _ (by rw [up_length, up_length]; omega), ln_up _ _ _ _ (by rw [up_length]; omega), ln_up _ _ _ _ (by omega), if_pos rfl]
      omega
end Go.Proofs.YtjlkjebmilfgoaaGreat

/- Layer 11, the program: a block of kind 2. -/
namespace Go.Proofs.YtjlkjebmilfgoaaGreat
open Go.RowKit

/-- The bits of a block of kind 2. -/
def ownBits (ts : List Tk) (last : Bool) : List UInt8 := headB 2 last ++ hdrB (talF ts) ++ encB (ownA (talF ts)) (ownB (talF ts)) ts
/-- The row of lengths is packed so that it is said. -/
def Packed0 (L : List Nat) : Prop := unF (ownR L) [] = (ownA L ++ ownB L, 0) ∧ (ownR L).length ≤ 316
set_option maxHeartbeats 4000000 in
theorem own2 (b : Nat) (F : Nat → Prop) (bl : List UInt8) (A : Option Addr) (n c B : Nat) (ts : List Tk) (last : Bool) (w : World) (h : Wf w b F bl) (hs : See w B A (tks ts)) (hA : ts ≠ [] → ∀ j, Lies A j → ¬ F j ∧ j < w.heap.size) (hn : ts.length = n) (hb : n ≤ 30000) (hbl : bl.length ≤ 80000000) (hm : allB ts = true) :
    Calls Tryz.prog 14 #[.pointer (some ⟨b, 0, none⟩), .slice A n c, .bool last] w (fun e w' => StP w b F (bl ++ ownBits ts last) e w' ∧ Packed0 (talF ts)) := by
  have HM : Hid (Calls Tryz.prog 28 #[.slice A n c] w fun e w' => e = .returned (.bool true) ∧ Only (fun _ => False) w w') := Lib.hid (by
    have := allMay A n c B ts w hs hn hb
    rw [hm] at this
    exact this)
  have HTal : Hid (∀ w1, Only (fun _ => False) w w1 → Calls Tryz.prog 31 #[.slice A n c] w1 (TalP w1 (talF ts))) := Lib.hid fun w1 o1 => tallyOf A n c B ts w1 (hs.new o1) hn hb hm
  have hle := tal_le ts hm (by omega)
  have hlen := talF_length ts
  have hfit := fits_own ts hm
  unfold ownBits
  obtain ⟨L, hL⟩ : ∃ L, talF ts = L := ⟨_, rfl⟩
  rw [hL] at HTal hle hlen hfit ⊢
  have HNL : Hid (∀ w1, Calls Tryz.prog 32 #[.agg (ints L).toArray] w1 (LnsP w1 L)) := Lib.hid fun w1 => newLengths L w1 hlen fun i => Nat.le_trans (hle i) (by decide)
  have HH : Hid (∀ w1, Only (fun _ => False) w w1 → Calls Tryz.prog 21 #[.pointer (some ⟨b, 0, none⟩), .int .u32 2, .bool last] w1 (PutW w1 b (fun j => F j ∧ j < w.heap.size) (bl ++ headB 2 last))) := Lib.hid fun w1 o1 => whead b 2 last _ bl w1 (h.tight.new o1) (by omega) (by decide)
  have HLW : Hid (∀ w1 w2 lo hi g1 g2 A3 q3 c3 g4, Only (fun _ => False) w w1 → w.heap.size ≤ lo → hi ≤ w1.heap.size → LnsAt lo hi w2 L g1 g2 A3 q3 g4 → WfP w1 b (fun j => F j ∧ j < w.heap.size) (bl ++ headB 2 last) w2 → Calls Tryz.prog 36 #[lnsV L g1 g2 A3 q3 c3 g4, .pointer (some ⟨b, 0, none⟩)] w2 fun e w3 => e = .returned (.tuple #[]) ∧ WfP w1 b (fun j => F j ∧ j < w.heap.size) (bl ++ headB 2 last ++ hdrB L) w3 ∧ LnsAt lo hi w3 L g1 g2 A3 q3 g4) := Lib.hid fun w1 w2 lo hi g1 g2 A3 q3 c3 g4 o1 hlo hhi hl hw2 => by
    have hz2 := hw2.only.size
    refine (lwrite b _ (bl ++ headB 2 last) lo hi L g1 g2 A3 q3 c3 g4 w2 hw2.wf hl (fun j a c q => ?_) (by omega) (by rw [List.length_append, headB_length]; omega) hlen).mono ?_
    · rcases q with q1 | q1
      · have := q1.2; omega
      · omega
    · rintro e w3 ⟨rfl, hw3⟩
      refine ⟨rfl, hw2.step hw3, hl.keep hw3.only fun j a c q => ?_⟩
      rcases q with q1 | q1
      · have := q1.2; omega
      · omega
  have HLC : Hid (∀ w1 lo hi g1 g2 A3 q3 c3 g4, LnsAt lo hi w1 L g1 g2 A3 q3 g4 → hi ≤ w1.heap.size → Calls Tryz.prog 35 #[lnsV L g1 g2 A3 q3 c3 g4] w1 (Codes2P w1 (ownA L) (ownB L))) := Lib.hid fun w1 lo hi g1 g2 A3 q3 c3 g4 hl hh => lcodes lo hi L g1 g2 A3 q3 c3 g4 w1 hl hh hlen
  have HW : Hid (∀ w1 w3 w4 hi T1 T2, Only (fun _ => False) w w1 → (hdrB L).length ≤ 8000 → WfP w1 b (fun j => F j ∧ j < w.heap.size) (bl ++ headB 2 last ++ hdrB L) w3 → Only (fun _ => False) w3 w4 → Cod2 w4 w3.heap.size hi T1 T2 (ownA L) (ownB L) → Calls Tryz.prog 30 #[.agg #[.pointer (some ⟨T1, 0, none⟩), .pointer (some ⟨T2, 0, none⟩)], .pointer (some ⟨b, 0, none⟩), .slice A n c] w4 (PutW w b F (bl ++ (headB 2 last ++ hdrB L ++ encB (ownA L) (ownB L) ts)))) := Lib.hid fun w1 w3 w4 hi T1 T2 o1 hd8 hw3 o4 hc => by
    have hz1 := o1.size
    have hz3 := hw3.only.size
    have hsee : See w4 B A (tks ts) := by
      intro i v hv
      obtain ⟨bb, off, e1, e2, e3⟩ := hs i v hv
      refine ⟨bb, off, e1, e2, ?_⟩
      have hAb := hA (by rintro rfl; simp [tks] at hv) bb ⟨_, e1, rfl⟩
      exact o4.cellF (hw3.only.cellF (o1.cellF e3 fun f => f) fun q => hAb.1 q.1) fun f => f
    have hwt : Wf w4 b (fun j => (F j ∧ j < w.heap.size ∨ w1.heap.size ≤ j) ∧ j < w3.heap.size) (bl ++ headB 2 last ++ hdrB L) := hw3.wf.tight.new o4
    refine (cwrite b _ (bl ++ headB 2 last ++ hdrB L) w3.heap.size hi T1 T2 _ _ A n c B ts w4 ⟨hc, hwt, fun j a _ q => by omega⟩ hsee (fun h0 j hj q => ?_) hn hb (by rw [List.length_append, List.length_append, headB_length]; omega) hm hfit).mono ?_
    · have := hA h0 j hj
      rcases q.1 with q1 | q1
      · exact this.1 q1.1
      · omega
    · rintro e w5 ⟨rfl, hw5⟩
      refine ⟨rfl, ?_⟩
      rw [← List.append_assoc, ← List.append_assoc]
      have s1 : WfP w1 b (fun j => F j ∧ j < w.heap.size) _ w4 := hw3.new o4
      have s2 := s1.step (hw5.mono (G := fun j => F j ∧ j < w.heap.size ∨ w1.heap.size ≤ j) fun j q => q.1)
      exact (s2.mono fun j q => q.1).late o1
  have HHd : Hid (∀ lo hi w1 g1 g2 A3 q3 g4, LnsAt lo hi w1 L g1 g2 A3 q3 g4 → (hdrB L).length ≤ 8000) := Lib.hid fun lo hi w1 g1 g2 A3 q3 g4 hl => hdrB_length L (by rw [hl.q]; exact hl.q2)
  have HV : Hid (∃ nA nB, ∀ g1 g2 A3 q3 c3 g4, lnsV L g1 g2 A3 q3 c3 g4 = .agg #[.slice (some ⟨g1, 0, none⟩) nA 286, .slice (some ⟨g2, 0, none⟩) nB 30, .slice A3 q3 c3, .slice (some ⟨g4, 0, none⟩) 19 19]) := Lib.hid ⟨_, _, fun _ _ _ _ _ _ => rfl⟩
  obtain ⟨ks, hks⟩ : ∃ ks, ints L = ks := ⟨_, rfl⟩
  have HTal2 : Hid (∀ w1, Only (fun _ => False) w w1 → Calls Tryz.prog 31 #[.slice A n c] w1 fun e w' => e = .returned (.agg ks.toArray) ∧ Only (fun _ => False) w1 w') := Lib.hid fun w1 o1 => by
    refine (HTal.out w1 o1).mono fun e w' q => ?_
    rw [TalP, hks] at q
    exact q
  rw [hks] at HNL
  have HAB : Hid ((ownA L ++ ownB L).length ≤ 1000) := Lib.hid (by rw [List.length_append]; have h1 := ownA_len hlen; have h2 := ownB_len hlen; omega)
  obtain ⟨Z, hZ⟩ : ∃ Z, bl ++ (headB 2 last ++ hdrB L ++ encB (ownA L) (ownB L) ts) = Z := ⟨_, rfl⟩
  rw [hZ] at HW ⊢
  clear h hs hA hn hm hle hlen hL hks hfit HTal hZ
  go_enter Tryz.func14, Tryz.ntmps14
  go_wp2_with fail
  refine HM.out.mono ?_
  rintro e w1 ⟨rfl, o1⟩
  have HO1 := Lib.hid o1
  clear o1 HM
  go_wp2_with fail
  refine (HTal2.out w1 HO1.out).mono ?_
  rintro e w2 ⟨rfl, o2⟩
  have HO2 := Lib.hid (HO1.out.trans o2)
  clear o2 HTal2 HO1
  go_wp2_with fail
  refine (HNL.out w2).mono ?_
  rintro e w3 ⟨g1, g2, A3, q3, c3, g4, rfl, hl, o3⟩
  obtain ⟨nA, nB, hV⟩ := HV.out
  have HL8 := HHd.out _ _ _ _ _ _ _ _ hl
  have HPk : Hid (Packed0 L) := Lib.hid ⟨hl.pk.done HAB.out, by rw [hl.q]; exact hl.q2⟩
  obtain ⟨wa, hwa⟩ : ∃ wa, w3.alloc (.cells #[.slice (some ⟨g1, 0, none⟩) nA 286, .slice (some ⟨g2, 0, none⟩) nB 30, .slice A3 q3 c3, .slice (some ⟨g4, 0, none⟩) 19 19] 75) = wa := ⟨_, rfl⟩
  have hoa : Only (fun _ => False) w3 wa := by rw [← hwa]; exact (Only.refl _ w3).alloc _
  obtain ⟨K, hK⟩ : ∃ K, w3.heap.size = K := ⟨_, rfl⟩
  have hIa : Is wa K 75 [.slice (some ⟨g1, 0, none⟩) nA 286, .slice (some ⟨g2, 0, none⟩) nB 30, .slice A3 q3 c3, .slice (some ⟨g4, 0, none⟩) 19 19] := by rw [← hwa, ← hK]; exact Is.new w3 _ _
  have HIa := Lib.hid hIa
  have hla := hl.new hoa
  have HO3 := Lib.hid ((HO2.out.trans o3).trans hoa)
  have HS2 : Hid (w.heap.size ≤ w2.heap.size ∧ w2.heap.size ≤ K ∧ K < wa.heap.size) := Lib.hid ⟨HO2.out.size, by rw [← hK]; exact o3.size, hIa.lt⟩
  rw [hK] at hla
  have HLn := Lib.hid hla
  have hlw := fun (w4 : World) => HLW.out wa w4 w2.heap.size K g1 g2 A3 q3 c3 g4 HO3.out HS2.out.1 (by have := HS2.out.2.2; omega)
  have hlc := fun (w4 : World) => HLC.out w4 w2.heap.size K g1 g2 A3 q3 c3 g4
  rw [hV] at hlw hlc ⊢
  have HLW3 := Lib.hid hlw
  have HLC3 := Lib.hid hlc
  have HL88 := Lib.hid HL8
  have HH3 := Lib.hid (HH.out wa HO3.out)
  clear hl o3 HNL HO2 HHd HV hV hlw hlc HL8 HLW HLC HH hla hIa hoa
  go_wp2_with fail
  refine HH3.out.mono ?_
  rintro e w4 ⟨rfl, q4⟩
  have HN4 : Hid (LnsAt w2.heap.size K w4 L g1 g2 A3 q3 g4) := Lib.hid (HLn.out.keep q4.only fun j a c q => by have := q.2; have := HS2.out.1; omega)
  have HI4 : Hid (Is w4 K 75 [.slice (some ⟨g1, 0, none⟩) nA 286, .slice (some ⟨g2, 0, none⟩) nB 30, .slice A3 q3 c3, .slice (some ⟨g4, 0, none⟩) 19 19]) := Lib.hid (HIa.out.only q4.only fun q => by have := q.2; have := HS2.out; omega)
  have HW4 := Lib.hid (HLW3.out w4 HN4.out q4)
  have H4 := Lib.hid q4
  clear q4 HH3 HLW3 HLn
  go_wp2_with (first | ((with_reducible show wpList _ _ _ (Oper.mk _ (Op.load _ _) _ _ _ _ :: _) _ _); refine wpList_load_st rfl 75 (.tmp 7) rfl K rfl 75 _ HI4.out Tryz.underlying75 rfl (by kernel_rfl) ?_))
  refine HW4.out.mono ?_
  rintro e w5 ⟨rfl, q5, hl5⟩
  have HI5 : Hid (Is w5 K 75 [.slice (some ⟨g1, 0, none⟩) nA 286, .slice (some ⟨g2, 0, none⟩) nB 30, .slice A3 q3 c3, .slice (some ⟨g4, 0, none⟩) 19 19]) := Lib.hid (HIa.out.only q5.only fun q => by have := q.2; have := HS2.out; omega)
  have H5 := Lib.hid q5
  have HC5 := Lib.hid (HLC3.out w5 hl5 (by have := q5.only.size; have := HS2.out; omega))
  clear q5 hl5 HW4 HLC3 HN4 HI4 H4 HIa
  go_wp2_with (first | ((with_reducible show wpList _ _ _ (Oper.mk _ (Op.load _ _) _ _ _ _ :: _) _ _); refine wpList_load_st rfl 75 (.tmp 7) rfl K rfl 75 _ HI5.out Tryz.underlying75 rfl (by kernel_rfl) ?_))
  refine HC5.out.mono ?_
  rintro e w6 ⟨T1, T2, hi, rfl, hc, o6⟩
  have HW6 := Lib.hid (HW.out wa w5 w6 hi T1 T2 HO3.out HL88.out H5.out o6 hc)
  clear hc o6 HC5 HW H5 HI5
  go_wp2_with fail
  refine HW6.out.mono ?_
  rintro e w7 ⟨rfl, q7⟩
  have H7 := Lib.hid q7
  clear q7 HW6
  go_wp2
  go_ret
  exact ⟨⟨rfl, H7.out⟩, HPk.out⟩
theorem own (b : Nat) (F : Nat → Prop) (bl : List UInt8) (A : Option Addr) (n c B : Nat) (ts : List Tk) (last : Bool) (w : World) (h : Wf w b F bl) (hs : See w B A (tks ts)) (hA : ts ≠ [] → ∀ j, Lies A j → ¬ F j ∧ j < w.heap.size) (hn : ts.length = n) (hb : n ≤ 30000) (hbl : bl.length ≤ 80000000) (hm : allB ts = true) :
    Calls Tryz.prog 14 #[.pointer (some ⟨b, 0, none⟩), .slice A n c, .bool last] w (StP w b F (bl ++ ownBits ts last)) := (own2 b F bl A n c B ts last w h hs hA hn hb hbl hm).mono fun _ _ h => h.1
theorem own_bad (b : Option Addr) (A : Option Addr) (n c B : Nat) (ts : List Tk) (last : Bool) (w : World) (hs : See w B A (tks ts)) (hn : ts.length = n) (hb : n ≤ 30000) (hm : allB ts = false) :
    Calls Tryz.prog 14 #[.pointer b, .slice A n c, .bool last] w fun e w' => e = .returned (.int .i64 1) ∧ Only (fun _ => False) w w' := by
  have HM : Hid (Calls Tryz.prog 28 #[.slice A n c] w fun e w' => e = .returned (.bool false) ∧ Only (fun _ => False) w w') := Lib.hid (by
    have := allMay A n c B ts w hs hn hb
    rw [hm] at this
    exact this)
  clear hs hn hm
  go_enter Tryz.func14, Tryz.ntmps14
  go_wp2_with fail
  refine HM.out.mono ?_
  rintro e w1 ⟨rfl, o1⟩
  have HO1 := Lib.hid o1
  clear o1 HM
  go_wp2
  go_ret
  exact ⟨rfl, HO1.out⟩
end Go.Proofs.YtjlkjebmilfgoaaGreat

/- Layer 11: a block of kind 2 takes as many bits as is told. -/
namespace Go.Proofs.YtjlkjebmilfgoaaGreat
open Go.RowKit
theorem own_size (ts : List Tk) (last : Bool) (hm : allB ts = true) : (ownBits ts last).length = ownN ts := by
  unfold ownBits ownN
  rw [List.length_append, List.length_append, headB_length, enc_size _ _ _ hm]
theorem zeros_bits (n : Nat) : Bits (List.replicate n 0) := fun x hx => by
  rw [List.eq_of_mem_replicate hx]
  decide
theorem enc_isbits (la lb : List Nat) (ts : List Tk) : Bits (encB la lb ts) := by
  have hc : ∀ l s, Bits (code l s) := fun l s => hb_bits _ _
  unfold encB
  refine bits_append (fun x hx => ?_) (hc _ _)
  obtain ⟨t, _, ht⟩ := List.mem_flatMap.1 hx
  revert ht
  unfold tokB
  split
  · exact fun h => hc _ _ x h
  · exact fun h => bits_append (hc _ _) (bits_append (nb_bits _ _) (bits_append (hc _ _) (nb_bits _ _))) x h
theorem plain_isbits (ts : List Tk) (last : Bool) : Bits (plainB ts last) := bits_append (headB_bits _ _) (enc_isbits _ _ _)
theorem plain_len (ts : List Tk) (last : Bool) (h : ts.length ≤ 60) (hm : allB ts = true) : (plainB ts last).length ≤ 10000 := by
  have hmay : ∀ t ∈ ts, mayB t = true := fun t ht => List.all_eq_true.1 hm t ht
  have h1 := toks_length fixA fixB low_fixA low_fixB ts hmay
  have h2 := ln_le fixA 256 low_fixA
  unfold plainB encB
  rw [List.length_append, List.length_append, headB_length, code_length]
  omega
end Go.Proofs.YtjlkjebmilfgoaaGreat
