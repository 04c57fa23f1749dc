/- Layer 11, the program: what a block of kind 2 tells ahead of its symbols; how many bits blocks take. -/
import Derived.Test.YtjlkjebmilfgoaaKLens
import Derived.Test.YtjlkjebmilfgoaaKPl
import Derived.Test.YtjlkjebmilfgoaaRTree
/- Layer 11, the program: what is told ahead of symbols, written. -/
namespace Go.Proofs.Ytjlkjebmilfgoaa
open Go.RowKit

theorem sumBy_sumTo (f : Nat → Nat) (l : List Nat) : ∀ k, k ≤ l.length → sumBy f (l.take k) = sumTo k fun i => f (ln l i)
  | 0, _ => by simp [sumBy, sumTo]
  | k + 1, h => by rw [sumBy_take f l k (by omega), sumBy_sumTo f l k (by omega), sumTo]
theorem sumBy_all (f : Nat → Nat) (l : List Nat) : sumBy f l = sumTo l.length fun i => f (ln l i) := by
  have := sumBy_sumTo f l l.length (Nat.le_refl _)
  rw [List.take_length] at this
  exact this
/-- Lengths that fit make a code. -/
theorem good_kd {c L : List Nat} {most cost : Nat} (h : Good c L 15 most cost) (hm : most ≤ 15) : (kd L).2 = 0 := by
  have hl : Low L := fun x hx => by
    obtain ⟨i, _, rfl⟩ := mem_ln hx
    exact Nat.le_trans (h.top i) hm
  have h1 : fu L 16 = sumTo c.length fun s => pw 15 (ln L s) := by rw [fu_sum L hl, sumBy_all, h.len]; rfl
  have h2 : st L 16 = (c.filter fun x => decide (0 < x)).length := by
    rw [st_sum L hl, sumBy_all, h.len, ← h.num]
    rfl
  unfold kd
  split
  · rfl
  · rename_i h3
    split
    · rfl
    · rename_i h4
      by_cases h5 : 2 ≤ (c.filter fun x => decide (0 < x)).length
      · rw [if_pos (by rw [h1, h.full h5])]
      · exfalso
        have h6 : (c.filter fun x => decide (0 < x)).length = 1 := by omega
        refine h4 ⟨by rw [h2, h6], ?_⟩
        have h7 := h.lone h6
        have h8 := h.num
        rw [h6] at h8
        have h9 : (sumTo c.length fun s => pw 15 (ln L s)) = sumTo c.length fun s => nz (ln L s) * 16384 := sumTo_congr fun s _ => by
          have := h7 s
          unfold pw nz
          rcases Nat.eq_zero_or_pos (ln L s) with e | e
          · rw [if_pos e, if_pos e]
          · rw [if_neg (by omega), if_neg (by omega), show ln L s = 1 by omega]
        have h10 : ∀ n, (sumTo n fun s => nz (ln L s) * 16384) = (sumTo n fun s => nz (ln L s)) * 16384 := fun n => by
          induction n with
          | zero => simp [sumTo]
          | succ n ih => rw [sumTo, sumTo, ih, Nat.add_mul]
        rw [h1, h9, h10, h8]
theorem sumBy_zeros (f : Nat → Nat) (h0 : f 0 = 0) (l : List Nat) (m : Nat) (h : ∀ i, m ≤ i → ln l i = 0) : sumBy f (l.take m) = sumBy f l := by
  rcases Nat.le_total m l.length with hm | hm
  · rw [sumBy_sumTo f l m hm, sumBy_all]
    obtain ⟨d, hd⟩ : ∃ d, l.length = m + d := ⟨l.length - m, by omega⟩
    rw [hd]
    clear hd hm
    induction d with
    | zero => rfl
    | succ d ih => rw [← Nat.add_assoc, sumTo, ← ih, h (m + d) (by omega), h0, Nat.add_zero]
  · rw [List.take_of_length_le hm]
theorem trim_zero (l : List Nat) (least i : Nat) (h : trimN l least l.length ≤ i) : ln l i = 0 := by
  rcases Nat.lt_or_ge i l.length with h2 | h2
  · exact trimN_zero l least _ i h h2
  · unfold ln
    rw [List.getD_eq_getElem?_getD, List.getElem?_eq_none h2]
    rfl
theorem kd_trim (l : List Nat) (least : Nat) (hl : Low l) : kd (trimF l least) = kd l := by
  have hl2 : Low (trimF l least) := fun x hx => hl x (List.mem_of_mem_take hx)
  have h1 : st (trimF l least) 16 = st l 16 := by rw [st_sum _ hl2, st_sum _ hl]; exact sumBy_zeros on rfl l _ fun i h => trim_zero l least i h
  have h2 : fu (trimF l least) 16 = fu l 16 := by rw [fu_sum _ hl2, fu_sum _ hl]; exact sumBy_zeros wt rfl l _ fun i h => trim_zero l least i h
  unfold kd
  rw [h1, h2]

section
variable {L : List Nat} (hL : L.length = 317)
include hL
theorem goodA : Good (L.take 286) (lens6 (L.take 286) 15) 15 15 (leastOf ((order6 (L.take 286)).map (ln (L.take 286))) 15) := lens6_good' _ 15 (by decide) (by decide) (Nat.le_trans (some_le _) (by rw [takeA hL]; decide))
theorem goodB : Good ((L.drop 286).take 30) (lens6 ((L.drop 286).take 30) 15) 15 15 (leastOf ((order6 ((L.drop 286).take 30)).map (ln ((L.drop 286).take 30))) 15) := lens6_good' _ 15 (by decide) (by decide) (Nat.le_trans (some_le _) (by rw [takeB hL]; decide))
omit hL in
theorem low_of_good {c l : List Nat} {cost : Nat} (h : Good c l 15 15 cost) : Low l := fun x hx => by
  obtain ⟨i, _, rfl⟩ := mem_ln hx
  exact h.top i
theorem kdA : (kd (ownA L)).2 = 0 := by
  unfold ownA
  rw [kd_trim _ _ (low_of_good (goodA hL))]
  exact good_kd (goodA hL) (by decide)
theorem kdB : (kd (ownB L)).2 = 0 := by
  unfold ownB
  rw [kd_trim _ _ (low_of_good (goodB hL))]
  exact good_kd (goodB hL) (by decide)
end
theorem goodF (L : List Nat) : Good (countF (ownR L)) (ownF L) 15 7 (leastOf ((order6 (countF (ownR L))).map (ln (countF (ownR L)))) 7) := lens6_good' _ 7 (by decide) (by decide) (Nat.le_trans (some_le _) (by rw [countF_len]; decide))
theorem kdF (L : List Nat) : (kd (ownF L)).2 = 0 := good_kd (goodF L) (by decide)
theorem lowF (L : List Nat) : Low (ownF L) := fun x hx => by
  obtain ⟨i, _, rfl⟩ := mem_ln hx
  exact Nat.le_trans ((ownF_facts L).2 i) (by decide)

/-- Symbols that say a row may be. -/
theorem un_may : ∀ (p : List Ru) (o l : List Nat), unF p o = (l, 0) → ∀ r ∈ p, mayR r = true
  | [], _, _, _, r, hr => by cases hr
  | x :: p, o, l, h, r, hr => by
    rw [unF] at h
    split at h
    · simp at h
    · rename_i h1
      split at h
      · simp at h
      · split at h
        · simp at h
        · rcases List.mem_cons.1 hr with rfl | h2
          · simpa using h1
          · exact un_may p _ l h r h2
theorem bump_mono (r : Ru) (l : List Nat) (i : Nat) : l.getD i 0 ≤ (bump r l).getD i 0 := by
  unfold bump
  split
  · rw [List.getD_eq_getElem?_getD, List.getD_eq_getElem?_getD, List.getElem?_set]
    split
    · rename_i h
      subst h
      split
      · rw [List.getD_eq_getElem?_getD]; simp
      · rename_i h2
        rw [List.getElem?_eq_none (by omega)]
        simp
    · exact Nat.le_refl _
  · exact Nat.le_refl _
theorem count_fold (p : List Ru) : ∀ (l : List Nat) (i : Nat), l.getD i 0 ≤ (p.foldl (fun l r => bump r l) l).getD i 0 := by
  induction p with
  | nil => intro l i; exact Nat.le_refl _
  | cons r p ih => intro l i; exact Nat.le_trans (bump_mono r l i) (ih _ i)
theorem count_pos (p : List Ru) (r : Ru) (hr : r ∈ p) (h0 : 0 ≤ r.s) (h18 : r.s ≤ 18) : ∀ l : List Nat, l.length = 19 → 0 < (p.foldl (fun l r => bump r l) l).getD r.s.toNat 0 := by
  induction p with
  | nil => cases hr
  | cons x p ih =>
    intro l hl
    rw [List.foldl_cons]
    rcases List.mem_cons.1 hr with rfl | h
    · refine Nat.lt_of_lt_of_le ?_ (count_fold p _ _)
      rw [bump_yes r l ⟨h0, h18⟩, List.getD_eq_getElem?_getD, List.getElem?_set, if_pos rfl, if_pos (by omega)]
      simp
    · exact ih h _ (by rw [bump_length, hl])
theorem hasF (L : List Nat) (h : unF (ownR L) [] = (ownA L ++ ownB L, 0)) (r : Ru) (hr : r ∈ ownR L) : Has (ownF L) r.s.toNat := by
  have hm := mayR_yes r (un_may _ _ _ h r hr)
  refine ⟨by rw [(ownF_facts L).1]; omega, ((goodF L).pos _).2 ?_⟩
  exact count_pos (ownR L) r hr hm.1 hm.2.1 _ (by simp)

/-- The first code's lengths, as far as they are told. -/
def ownT (L : List Nat) : List Nat := trimF (toldTo (ownF L) 19) 4
theorem ownT_len (L : List Nat) : 4 ≤ (ownT L).length ∧ (ownT L).length ≤ 19 := by
  unfold ownT
  rw [trimF_length, toldTo_length _ _ (Nat.le_refl _)]
  exact ⟨trimN_ge _ _ _ (by decide), trimN_le _ _ _⟩
theorem ln_all {l : List Nat} {M : Nat} (h : ∀ x ∈ l, x ≤ M) (i : Nat) : ln l i ≤ M := by
  unfold ln
  rw [List.getD_eq_getElem?_getD]
  rcases Nat.lt_or_ge i l.length with h2 | h2
  · rw [List.getElem?_eq_getElem h2]
    exact h _ (List.getElem_mem h2)
  · rw [List.getElem?_eq_none h2]
    exact Nat.zero_le _
theorem ownT_le (L : List Nat) (i : Nat) : ln (ownT L) i ≤ 7 := by
  unfold ownT
  rw [ln_trimF]
  refine ln_all (fun x hx => ?_) i
  obtain ⟨y, _, rfl⟩ := List.mem_map.1 hx
  exact (ownF_facts L).2 y
def hdr0 (L : List Nat) : List UInt8 := nb ((ownA L).length - 257) 5 ++ nb ((ownB L).length - 1) 5 ++ nb ((ownT L).length - 4) 4
def hdr1 (L : List Nat) (k : Nat) : List UInt8 := ((ownT L).take k).flatMap fun n => nb n 3
def ruB (F : List Nat) (r : Ru) : List UInt8 := code F r.s.toNat ++ nb r.m.toNat (bitsF r.s)
def hdr2 (L : List Nat) (k : Nat) : List UInt8 := ((ownR L).take k).flatMap (ruB (ownF L))
/-- All that a block of kind 2 tells ahead of its symbols. -/
def hdrB (L : List Nat) : List UInt8 := hdr0 L ++ hdr1 L 19 ++ hdr2 L 316
end Go.Proofs.Ytjlkjebmilfgoaa

/- Layer 11, the program: what is told ahead of symbols, written. -/
namespace Go.Proofs.Ytjlkjebmilfgoaa
open Go.RowKit

theorem hdr0_length (L : List Nat) : (hdr0 L).length = 14 := by unfold hdr0; rw [List.length_append, List.length_append, nb_length, nb_length, nb_length]
theorem flat_len {α : Type} (f : α → List UInt8) (M : Nat) : ∀ l : List α, (∀ x ∈ l, (f x).length ≤ M) → (l.flatMap f).length ≤ M * l.length
  | [], _ => by simp
  | x :: l, h => by
    have h1 := h x List.mem_cons_self
    have h2 := flat_len f M l fun y hy => h y (List.mem_cons_of_mem _ hy)
    rw [List.flatMap_cons, List.length_append, List.length_cons, Nat.mul_add]
    omega
theorem hdr1_length (L : List Nat) (k : Nat) : (hdr1 L k).length ≤ 57 := by
  have h := flat_len (fun n => nb n 3) 3 ((ownT L).take k) fun x _ => by rw [nb_length]; exact Nat.le_refl _
  have h2 := (ownT_len L).2
  have h3 : ((ownT L).take k).length ≤ 19 := by rw [List.length_take]; omega
  unfold hdr1
  omega
theorem ruB_length (L : List Nat) (r : Ru) : (ruB (ownF L) r).length ≤ 22 := by
  unfold ruB
  rw [List.length_append, code_length, nb_length]
  have h1 := (ownF_facts L).2 r.s.toNat
  have h2 := bits_le r.s
  omega
theorem hdr2_length (L : List Nat) (k : Nat) (h : (ownR L).length ≤ 316) : (hdr2 L k).length ≤ 6952 := by
  have h1 := flat_len (ruB (ownF L)) 22 ((ownR L).take k) fun r _ => ruB_length L r
  have h3 : ((ownR L).take k).length ≤ 316 := by rw [List.length_take]; omega
  unfold hdr2
  omega

set_option maxRecDepth 20000 in
set_option maxHeartbeats 8000000 in
theorem lwrite (b : Nat) (F : Nat → Prop) (bl : List UInt8) (lo hi : Nat) (L : List Nat) (g1 g2 : Nat) (A3 : Option Addr) (q3 c3 g4 : Nat) (w : World) (h : Wf w b F bl) (hl : LnsAt lo hi w L g1 g2 A3 q3 g4) (hfar : ∀ j, lo ≤ j → j < hi → ¬ F j) (hhi : hi ≤ w.heap.size) (hbl : bl.length ≤ 90000000) (hL : L.length = 317) :
    Calls Try.prog 38 #[lnsV L g1 g2 A3 q3 c3 g4, .pointer (some ⟨b, 0, none⟩)] w (PutW w b F (bl ++ hdrB L)) := by
  have hA := ownA_len hL
  have hB := ownB_len hL
  obtain ⟨nA, hnA⟩ : ∃ nA, (ownA L).length = nA := ⟨_, rfl⟩
  obtain ⟨nB, hnB⟩ : ∃ nB, (ownB L).length = nB := ⟨_, rfl⟩
  rw [hnA] at hA
  rw [hnB] at hB
  unfold lnsV
  rw [hnA, hnB]
  have hT := ownT_len L
  obtain ⟨nT, hnT⟩ : ∃ nT, (ownT L).length = nT := ⟨_, rfl⟩
  rw [hnT] at hT
  have hq := hl.q
  have hq2 := hl.q2
  obtain ⟨wa, hwa⟩ : ∃ wa, w.alloc (.cells #[.slice (some ⟨g1, 0, none⟩) nA 286, .slice (some ⟨g2, 0, none⟩) nB 30, .slice A3 q3 c3, .slice (some ⟨g4, 0, none⟩) 19 19] 56) = wa := ⟨_, rfl⟩
  have hoa : Only (fun _ => False) w wa := by rw [← hwa]; exact (Only.refl _ w).alloc _
  obtain ⟨K, hK⟩ : ∃ K, w.heap.size = K := ⟨_, rfl⟩
  have hIa : Is wa K 56 [.slice (some ⟨g1, 0, none⟩) nA 286, .slice (some ⟨g2, 0, none⟩) nB 30, .slice A3 q3 c3, .slice (some ⟨g4, 0, none⟩) 19 19] := by rw [← hwa, ← hK]; exact Is.new w _ _
  have hLa := hl.new hoa
  have hFi : ∀ wx, Only (fun _ => False) wa wx → Calls Try.prog 55 #[.slice (some ⟨g4, 0, none⟩) 19 19] wx (FirstsP wx (ownF L)) := fun wx ho => inFirstOrder _ 19 _ _ wx (hLa.new ho).s4 (ownF_facts L).1
  have HFi := Lib.hid (hFi wa (Only.refl _ wa))
  have HTr : Hid (∀ w1 w2 g c, Made 3 w1 (some ⟨g, 0, none⟩) 19 c (ints (toldTo (ownF L) 19)) w2 → Calls Try.prog 32 #[.slice (some ⟨g, 0, none⟩) 19 c, .int .i64 4] w2 fun e w' => e = .returned (.slice (some ⟨g, 0, none⟩) nT c) ∧ w2 = w') := Lib.hid fun w1 w2 g c hm => by
    have hc := hm.1.caps
    have := trimmed g 0 19 c _ 4 _ w2 hm.see (toldTo_length _ _ (Nat.le_refl _)) (by decide) (by decide) hc.1 hc.2
    have e : trimN (toldTo (ownF L) 19) 4 19 = nT := by
      rw [← hnT, ownT, trimF_length, toldTo_length _ _ (Nat.le_refl _)]
    rw [e] at this
    exact this
  -- everything stands behind w2; the writer lies in G
  obtain ⟨G, hG⟩ : ∃ G : Nat → Prop, (fun j => F j ∧ j < w.heap.size) = G := ⟨_, rfl⟩
  have hGl : ∀ j, G j → F j ∧ j < K := by rw [← hG, hK]; exact fun j q => q
  have hwf : Wf wa b G bl := by rw [← hG]; exact h.tight.new hoa
  have hlate : ∀ w2 bl' wz, Only (fun _ => False) wa w2 → WfP w2 b G bl' wz → WfP w b F bl' wz := fun w2 bl' wz o2 hz => ((hz.mono fun j q => (hGl j q).1).late (hoa.trans o2))
  have HLate := Lib.hid hlate
  have HB2 : Hid (∀ (w2 wx : World) (bl' : List UInt8), Only (fun _ => False) wa w2 → WfP w2 b G bl' wx → wx.cell? ⟨K, 0, none⟩ = some (.slice (some ⟨g1, 0, none⟩) nA 286) ∧ wx.cell? ⟨K, 1, none⟩ = some (.slice (some ⟨g2, 0, none⟩) nB 30) ∧ wx.cell? ⟨K, 2, none⟩ = some (.slice A3 q3 c3) ∧ wx.cell? ⟨K, 3, none⟩ = some (.slice (some ⟨g4, 0, none⟩) 19 19) ∧ Hid (LnsAt lo hi wx L g1 g2 A3 q3 g4)) := Lib.hid fun w2 wx bl' o2 hx => by
    have i1 := (hIa.only o2 fun f => f).only hx.only fun e => by have := (hGl K e).2; omega
    exact ⟨i1.cell 0 rfl, i1.cell 1 rfl, i1.cell 2 rfl, i1.cell 3 rfl, Lib.hid ((hLa.new o2).keep hx.only fun j a c q => hfar j a c (hGl j q).1)⟩
  have HP : Hid (∀ (w2 wx : World) (x n : Nat) (bl' : List UInt8), WfP w2 b G bl' wx → bl'.length ≤ 90010000 → x < 4294967296 → n ≤ 32 → Calls Try.prog 22 #[.pointer (some ⟨b, 0, none⟩), .int .u32 x, .int .i64 n] wx fun e w' => e = .returned (.tuple #[]) ∧ WfP w2 b G (bl' ++ nb x n) w') := Lib.hid fun w2 wx x n bl' hx hl h5 h6 => by
    refine (wput b x n _ bl' wx hx.wf (by omega) h5 h6).mono ?_
    rintro e w' ⟨rfl, hw'⟩
    exact ⟨rfl, hx.step hw'⟩
  have HN : Hid (∀ (wx : World), LnsAt lo hi wx L g1 g2 A3 q3 g4 → hi ≤ wx.heap.size → Calls Try.prog 42 #[.slice (some ⟨g4, 0, none⟩) 19 19] wx (New2 wx (ownF L))) := Lib.hid fun wx hx hh => new2 _ 19 19 _ _ wx hx.s4 hh (ownF_facts L).1 (by decide) (lowF L) (kdF L)
  have HWF := Lib.hid hwf
  have HK : Hid (K < wa.heap.size ∧ hi ≤ wa.heap.size) := Lib.hid ⟨hIa.lt, Nat.le_trans hhi hoa.size⟩
  have HHF : Hid (∀ r ∈ ownR L, Has (ownF L) r.s.toNat ∧ mayR r = true) := Lib.hid fun r hr => by
    have hd := hl.pk.done (by rw [List.length_append, hnA, hnB]; omega)
    exact ⟨hasF L hd r hr, un_may _ _ _ hd r hr⟩
  have HnA := Lib.hid hnA
  have HnB := Lib.hid hnB
  have HnT := Lib.hid hnT
  have Hq := Lib.hid hq
  have HGl := Lib.hid hGl
  have HFar : Hid (∀ j, lo ≤ j → j < hi → ¬ G j) := Lib.hid fun j a c q => hfar j a c (hGl j q).1
  have ca3 := hIa.cell 3 rfl
  have ca0 := hIa.cell 0 rfl
  obtain ⟨xA, hxA⟩ : ∃ xA, nA - 257 = xA := ⟨_, rfl⟩
  obtain ⟨xB, hxB⟩ : ∃ xB, nB - 1 = xB := ⟨_, rfl⟩
  obtain ⟨xT, hxT⟩ : ∃ xT, nT - 4 = xT := ⟨_, rfl⟩
  have eA : (nA : Int) - 257 = (xA : Int) := by omega
  have eB : (nB : Int) - 1 = (xB : Int) := by omega
  have eT : (nT : Int) - 4 = (xT : Int) := by omega
  have eA2 : (xA : Int) % 4294967296 = (xA : Int) := by omega
  have eB2 : (xB : Int) % 4294967296 = (xB : Int) := by omega
  have eT2 : (xT : Int) % 4294967296 = (xT : Int) := by omega
  have HH0 : Hid (bl ++ nb xA 5 ++ nb xB 5 ++ nb xT 4 = bl ++ hdr0 L) := Lib.hid (by rw [hdr0, hnA, hnB, hnT, hxA, hxB, hxT]; simp only [List.append_assoc])
  have HX : Hid (xA < 4294967296 ∧ xB < 4294967296 ∧ xT < 4294967296) := Lib.hid (by omega)
  have Hbl := Lib.hid hbl
  clear h hl hfar hhi hL hoa hIa hLa hFi hG hGl hwf hlate hnA hnB hnT hxA hxB hxT hq hbl
  go_enter Try.func38, Try.ntmps38
  go_wp2_with fail
  refine HFi.out.mono ?_
  rintro e w1 ⟨gT, cT, rfl, m1⟩
  have M1 := Lib.hid m1
  have HT1 := Lib.hid (HTr.out wa w1 gT cT m1)
  clear m1 HFi HTr
  go_wp2_with fail
  refine HT1.out.mono ?_
  rintro e w1' ⟨rfl, rfl⟩
  have HST : Hid (WfP w1 b G bl w1) := Lib.hid (WfP.start (HWF.out.new M1.out.2.1))
  have HO1 : Hid (Only (fun _ => False) wa w1) := Lib.hid M1.out.2.1
  obtain ⟨k0, k1, k2, k3, _⟩ := HB2.out w1 w1 bl HO1.out HST.out
  clear HT1 HWF ca3 ca0
  go_wp2_with fail
  refine (HP.out w1 w1 xA 5 bl HST.out (by have := Hbl.out; omega) HX.out.1 (by decide)).mono ?_
  rintro e w2 ⟨rfl, q2⟩
  have H2 := Lib.hid q2
  clear q2 HST k0 k1 k2 k3
  obtain ⟨k0, k1, k2, k3, _⟩ := HB2.out w1 w2 _ HO1.out H2.out
  go_wp2_with fail
  refine (HP.out w1 w2 xB 5 _ H2.out (by have := Hbl.out; rw [List.length_append, nb_length]; omega) HX.out.2.1 (by decide)).mono ?_
  rintro e w3 ⟨rfl, q3'⟩
  have H3 := Lib.hid q3'
  clear q3' H2 k0 k1 k2 k3
  go_wp2_with fail
  refine (HP.out w1 w3 xT 4 _ H3.out (by have := Hbl.out; rw [List.length_append, List.length_append, nb_length, nb_length]; omega) HX.out.2.2 (by decide)).mono ?_
  rintro e w4 ⟨rfl, q4⟩
  have H4 : Hid (WfP w1 b G (bl ++ hdr0 L ++ hdr1 L 0) w4) := Lib.hid (by rw [HH0.out] at q4; simpa [hdr1] using q4)
  clear q4 H3 HH0 HX
  have HSeeT : Hid (∀ wx bl', WfP w1 b G bl' wx → See wx wx.heap.size (some ⟨gT, 0, none⟩) (ints (ownT L))) := Lib.hid fun wx bl' hx => by
    have hs : See w1 w1.heap.size (some ⟨gT, 0, none⟩) (ints (ownT L)) := by
      unfold ownT trimF
      rw [ints_take]
      exact M1.out.see.less _
    have hg : wa.heap.size ≤ gT := M1.out.2.2 gT ⟨_, rfl, rfl⟩
    exact (hs.apart (lies_one hg) hx.only fun j a _ q => by have := (HGl.out j q).2; have := HK.out.1; omega).more hx.only.size
  go_wp2_with fail
  go_loopg [37] nT (fun gk i wx => ∃ k : Nat, i = .int .i64 k ∧ k + gk ≤ nT ∧ nT ≤ k + gk ∧ Hid (WfP w1 b G (bl ++ hdr0 L ++ hdr1 L k) wx))
  case atStart => exact ⟨0, rfl, by omega, by omega, H4⟩
  case round =>
    clear H4
    obtain ⟨k, rfl, hk, hk2, HI⟩ := hrel
    by_cases hlt : k < nT
    · obtain ⟨bb, off, e1, _, c0⟩ := HSeeT.out wr _ HI.out k _ (ints_at (ownT L) k (by rw [HnT.out]; exact hlt))
      obtain ⟨rfl, rfl⟩ : gT = bb ∧ 0 = off := by simpa using e1
      rw [Nat.zero_add] at c0
      have hx7 := ownT_le L k
      have hst : hdr1 L (k + 1) = hdr1 L k ++ nb (ln (ownT L) k) 3 := by
        unfold hdr1
        refine flat_take _ _ k _ ?_
        unfold ln
        rw [List.getD_eq_getElem?_getD, List.getElem?_eq_getElem (by rw [HnT.out]; exact hlt)]
        rfl
      obtain ⟨x, hx⟩ : ∃ x, ln (ownT L) k = x := ⟨_, rfl⟩
      rw [hx] at c0 hx7 hst
      have HSt := Lib.hid hst
      have ex : (x : Int) % 4294967296 = (x : Int) := by omega
      have HPk := Lib.hid (HP.out w1 wr x 3 _ HI.out (by have := Hbl.out; have h1 := hdr0_length L; have h2 := hdr1_length L k; rw [List.length_append, List.length_append]; omega) (by omega) (by decide))
      clear hst hx e1
      go_wp2_with fail
      refine HPk.out.mono ?_
      rintro e w5 ⟨rfl, q5⟩
      have H5 : Hid (WfP w1 b G (bl ++ hdr0 L ++ hdr1 L (k + 1)) w5) := Lib.hid (by rw [HSt.out, ← List.append_assoc]; exact q5)
      clear q5 HPk HSt
      go_wp2_with fail
      go_roundg (gk - 1)
      case measure => omega
      case rel => exact ⟨k + 1, by go_num, by omega, by omega, H5⟩
    · obtain rfl : k = nT := by omega
      obtain ⟨k0, k1, k2, k3, HLn⟩ := HB2.out w1 wr _ HO1.out HI.out
      have HNw := Lib.hid (HN.out wr HLn.out (by have := HI.out.only.size; have := HO1.out.size; have := HK.out.2; omega))
      have hh1 : hdr1 L k = hdr1 L 19 := by
        unfold hdr1
        rw [List.take_of_length_le (by rw [HnT.out]; exact Nat.le_refl _), List.take_of_length_le (by rw [HnT.out]; omega)]
      have H5 : Hid (WfP w1 b G (bl ++ hdr0 L ++ hdr1 L 19) wr) := Lib.hid (by rw [← hh1]; exact HI.out)
      clear HI HSeeT HN hh1
      go_wp2_with fail
      refine HNw.out.mono ?_
      rintro e w6 ⟨T, rfl, ht, o6, hT6⟩
      have hz1 := HO1.out.size
      have hzr := H5.out.only.size
      obtain ⟨zr, hzr2⟩ : ∃ zr, wr.heap.size = zr := ⟨_, rfl⟩
      obtain ⟨z1, hz12⟩ : ∃ z1, w1.heap.size = z1 := ⟨_, rfl⟩
      obtain ⟨G6, hG6⟩ : ∃ G6 : Nat → Prop, (fun j => (G j ∨ w1.heap.size ≤ j) ∧ j < wr.heap.size) = G6 := ⟨_, rfl⟩
      have hG6l : ∀ j, G6 j → (G j ∨ z1 ≤ j) ∧ j < zr := by rw [← hG6, hz12, hzr2]; exact fun j q => q
      have hwf6 : Wf w6 b G6 (bl ++ hdr0 L ++ hdr1 L 19) := by rw [← hG6]; exact H5.out.wf.tight.new o6
      have hback : ∀ bl' wz, WfP w6 b G6 bl' wz → WfP w b F bl' wz := fun bl' wz hz => by
        have h1 : WfP w1 b G _ w6 := H5.out.new o6
        refine HLate.out w1 bl' wz HO1.out (h1.step (hz.mono fun j q => ?_))
        have := (hG6l j q).1
        rw [hz12]
        exact this
      have HBack := Lib.hid hback
      rw [hzr2] at ht
      have hz6 := o6.size
      have HC6 : Hid (∀ wx bl', WfP w6 b G6 bl' wx → wx.cell? ⟨K, 2, none⟩ = some (.slice A3 q3 c3) ∧ Hid (LnsAt lo hi wx L g1 g2 A3 q3 g4) ∧ Hid (Tab2 wx zr T (ownF L))) := Lib.hid fun wx bl' hx => by
        refine ⟨hx.only.cellF (o6.cellF k2 fun f => f) fun q => ?_, Lib.hid ((HLn.out.new o6).keep hx.only fun j a c q => ?_), Lib.hid (ht.keep hx.only fun j a c q => ?_)⟩
        · have h1 := hG6l _ q
          have h2 := HK.out
          rcases h1.1 with h3 | h3
          · have := (HGl.out _ h3).2
            simp at this
          · simp at h3
            omega
        · have h1 := hG6l _ q
          have h2 := HK.out
          rcases h1.1 with h3 | h3
          · exact HFar.out j a c h3
          · omega
        · have := (hG6l _ q).2
          omega
      have HST6 : Hid (WfP w6 b G6 (bl ++ hdr0 L ++ hdr1 L 19 ++ hdr2 L 0) w6) := Lib.hid (by simpa [hdr2] using WfP.start hwf6)
      have HLen : Hid (∀ k, (bl ++ hdr0 L ++ hdr1 L 19 ++ hdr2 L k).length ≤ 90008000) := Lib.hid fun k => by
        have h1 := hdr0_length L
        have h2 := hdr1_length L 19
        have h3 := hdr2_length L k (by rw [Hq.out]; exact hq2)
        have := Hbl.out
        rw [List.length_append, List.length_append, List.length_append]
        omega
      have hk6 := (HC6.out w6 _ HST6.out).1
      clear hback hwf6 hG6l hG6 ht o6 hT6 HNw H5 HLn HFar HLate HB2 HP k0 k1 k2 k3 hzr hz1 hzr2 hz12 hz6 HO1 M1 HGl HK
      go_wp2_with fail
      clear hk6
      go_loopg [55] q3 (fun gk i wx => ∃ k : Nat, i = .int .i64 k ∧ k + gk ≤ q3 ∧ q3 ≤ k + gk ∧ Hid (WfP w6 b G6 (bl ++ hdr0 L ++ hdr1 L 19 ++ hdr2 L k) wx))
      case atStart => exact ⟨0, rfl, by omega, by omega, HST6⟩
      case round =>
        clear HST6
        obtain ⟨j, rfl, hj, hj2, HI⟩ := hrel
        by_cases hlt2 : j < q3
        · obtain ⟨r, hr⟩ : ∃ r, (ownR L)[j]? = some r := ⟨(ownR L)[j]'(by rw [Hq.out]; exact hlt2), by simp [Hq.out, hlt2]⟩
          obtain ⟨_, HLn, HTb⟩ := HC6.out wr _ HI.out
          obtain ⟨bb, off, rfl, _, c0, c1⟩ := HLn.out.s3.symX j r hr
          have hh := HHF.out r (List.mem_of_getElem? hr)
          have hst : hdr2 L (j + 1) = hdr2 L j ++ ruB (ownF L) r := flat_take _ _ j r hr
          obtain ⟨s, m⟩ := r
          have hmay := mayR_yes _ hh.2
          simp only at c0 c1 hmay
          obtain ⟨p, hp⟩ : ∃ p : Nat, s = p := ⟨s.toNat, by omega⟩
          subst hp
          have hml := most_le (p : Int)
          obtain ⟨y, hy⟩ : ∃ y : Nat, m = y := ⟨m.toNat, by omega⟩
          subst hy
          have hru : ruB (ownF L) ⟨(p : Int), (y : Int)⟩ = code (ownF L) p ++ nb y (bitsF (p : Int)) := by
            unfold ruB
            simp only [Int.toNat_natCast]
          rw [hru] at hst
          have hhas : Has (ownF L) p := by have := hh.1; simp only [Int.toNat_natCast] at this; exact this
          have hbits := bits_le (p : Int)
          obtain ⟨nb', hnb⟩ : ∃ n, bitsF (p : Int) = n := ⟨_, rfl⟩
          rw [hnb] at hst hbits
          have HRB : Hid (∀ wx, Calls Try.prog 56 #[.int .i64 (p : Nat)] wx fun e w' => e = .returned (.int .i64 (nb' : Nat)) ∧ wx = w') := Lib.hid fun wx => by
            have := runBits (p : Int) wx
            rw [hnb] at this
            exact this
          have HSt := Lib.hid hst
          obtain ⟨we, hwe⟩ : ∃ we, wr.alloc (.cells #[.int .i64 (p : Nat), .int .i64 (y : Nat)] 98) = we := ⟨_, rfl⟩
          have hoe : Only (fun _ => False) wr we := by rw [← hwe]; exact (Only.refl _ wr).alloc _
          obtain ⟨g, hg⟩ : ∃ g, wr.heap.size = g := ⟨_, rfl⟩
          have hIe : Is we g 98 [.int .i64 (p : Nat), .int .i64 (y : Nat)] := by rw [← hwe, ← hg]; exact Is.new wr _ _
          have d0 := hIe.cell 0 rfl
          have d1 := hIe.cell 1 rfl
          have htbe := HTb.out.new hoe
          have hze := hoe.size
          obtain ⟨Ge, hGe⟩ : ∃ Ge : Nat → Prop, (fun j => (G6 j ∨ w6.heap.size ≤ j) ∧ j < wr.heap.size) = Ge := ⟨_, rfl⟩
          have hGel : ∀ j, Ge j → (G6 j ∨ w6.heap.size ≤ j) ∧ j < g := by rw [← hGe, hg]; exact fun j q => q
          have hwfe : Wf we b Ge (bl ++ hdr0 L ++ hdr1 L 19 ++ hdr2 L j) := by rw [← hGe]; exact HI.out.wf.tight.new hoe
          have HBk : Hid (∀ bl' wz, WfP we b Ge bl' wz → WfP w6 b G6 bl' wz) := Lib.hid fun bl' wz hz => (HI.out.new hoe).step (hz.mono fun j q => (hGel j q).1)
          have HCe : Hid (∀ wx bl', WfP we b Ge bl' wx → wx.cell? ⟨g, 0, none⟩ = some (.int .i64 (p : Nat)) ∧ wx.cell? ⟨g, 1, none⟩ = some (.int .i64 (y : Nat))) := Lib.hid fun wx bl' hx => by
            have i1 := hIe.only hx.only fun e => by have := (hGel g e).2; omega
            exact ⟨i1.cell 0 rfl, i1.cell 1 rfl⟩
          have HW : Hid (Calls Try.prog 29 #[.pointer (some ⟨T, 0, none⟩), .pointer (some ⟨b, 0, none⟩), .int .i64 (p : Nat)] we (WroteP we b Ge (bl ++ hdr0 L ++ hdr1 L 19 ++ hdr2 L j ++ code (ownF L) p))) := Lib.hid (twrite T b p zr Ge (ownF L) _ we htbe hwfe hhas (lowF L) (by have := HLen.out j; omega))
          have HPt : Hid (∀ wx wy, WfP we b Ge (bl ++ hdr0 L ++ hdr1 L 19 ++ hdr2 L j ++ code (ownF L) p) wx → Only (fun _ => False) wx wy → Calls Try.prog 22 #[.pointer (some ⟨b, 0, none⟩), .int .u32 y, .int .i64 nb'] wy fun e w' => e = .returned (.tuple #[]) ∧ WfP we b Ge (bl ++ hdr0 L ++ hdr1 L 19 ++ hdr2 L j ++ code (ownF L) p ++ nb y nb') w') := Lib.hid fun wx wy hx ho => by
            have hy := hx.new ho
            refine (wput b y nb' _ _ wy hy.wf (by have := HLen.out j; have h2 := ln_le (ownF L) p (lowF L); rw [List.length_append, code_length]; omega) (by omega) (by omega)).mono ?_
            rintro e w' ⟨rfl, hw'⟩
            exact ⟨rfl, hy.step hw'⟩
          have HY : Hid (y < 4294967296) := Lib.hid (by omega)
          clear hIe hoe htbe hze hGe hGel hwfe hst hnb hru hh hmay hhas hr HLn HTb hml
          go_wp2_with fail
          refine HW.out.mono ?_
          rintro e w7 ⟨rfl, q7⟩
          have H7 := Lib.hid q7
          clear q7 HW d0 d1
          have HP7 := Lib.hid (HPt.out w7 w7.drew H7.out ((Only.refl _ w7).drew))
          have hS7 := HCe.out w7.drew _ (H7.out.new ((Only.refl _ w7).drew))
          have S7 := Lib.hid hS7
          clear hS7
          go_wp2_with fail
          refine Steps.region (fun W => W.cell? ⟨g, 0, none⟩ = some (.int .i64 (p : Nat)) ∧ W.cell? ⟨g, 1, none⟩ = some (.int .i64 (y : Nat))) [(true, 0), (true, 1), (true, 2), (true, 3), (true, 4), (true, 5), (false, 6), (false, 7)] (by kernel_rfl) (by kernel_rfl) rfl (by kernel_rfl) (fun _ _ d _ _ h => by cases d <;> exact h) ?_
          refine Steps.take (.pointer (some ⟨b, 0, none⟩)) rfl S7.out (fun _ _ => by kernel_rfl) ?_
          simp only [Act.put, List.setIfInBounds_toArray, List.set_cons_succ, List.set_cons_zero]
          refine Steps.take (.pointer (some ⟨g, 1, none⟩)) rfl S7.out (fun _ _ => by kernel_rfl) ?_
          simp only [Act.put, List.setIfInBounds_toArray, List.set_cons_succ, List.set_cons_zero]
          refine Steps.take (.int .i64 (y : Nat)) rfl S7.out (fun _ hW => by obtain ⟨hw1, hw2⟩ := hW; go_simp) ?_
          simp only [Act.put, List.setIfInBounds_toArray, List.set_cons_succ, List.set_cons_zero]
          refine Steps.take (.int .u32 (y : Nat)) rfl S7.out (fun _ _ => by have := HY.out; go_simp; first | done | (rw [IntKind.wrap_u32]; omega) | omega) ?_
          simp only [Act.put, List.setIfInBounds_toArray, List.set_cons_succ, List.set_cons_zero]
          refine Steps.take (.pointer (some ⟨g, 0, none⟩)) rfl S7.out (fun _ _ => by kernel_rfl) ?_
          simp only [Act.put, List.setIfInBounds_toArray, List.set_cons_succ, List.set_cons_zero]
          refine Steps.take (.int .i64 (p : Nat)) rfl S7.out (fun _ hW => by obtain ⟨hw1, hw2⟩ := hW; go_simp) ?_
          simp only [Act.put, List.setIfInBounds_toArray, List.set_cons_succ, List.set_cons_zero]
          refine Steps.call 56 #[.int .i64 (p : Nat)] rfl (by kernel_rfl) ((HRB.out _).mono ?_)
          rintro e w8 ⟨rfl, rfl⟩
          refine ⟨_, rfl, S7.out, ?_⟩
          simp only [Act.put, List.setIfInBounds_toArray, List.set_cons_succ, List.set_cons_zero]
          refine Steps.call 22 #[.pointer (some ⟨b, 0, none⟩), .int .u32 (y : Nat), .int .i64 (nb' : Nat)] rfl (by kernel_rfl) (HP7.out.mono ?_)
          rintro e w9 ⟨rfl, q9⟩
          refine ⟨_, rfl, HCe.out w9 _ q9, ?_⟩
          have H9 : Hid (WfP w6 b G6 (bl ++ hdr0 L ++ hdr1 L 19 ++ hdr2 L (j + 1)) w9) := Lib.hid (by
            have := HBk.out _ _ q9
            rw [HSt.out]
            simpa only [List.append_assoc] using this)
          clear q9 HP7 S7 HCe HPt HBk HRB HSt H7
          simp only [Act.put, List.setIfInBounds_toArray, List.set_cons_succ, List.set_cons_zero]
          show wpList _ _ _ _ _ _
          go_wp2_with fail
          go_roundg (gk - 1)
          case measure => omega
          case rel => exact ⟨j + 1, by go_num, by omega, by omega, H9⟩
        · obtain rfl : j = q3 := by omega
          have H8 : Hid (WfP w b F (bl ++ hdrB L) wr) := Lib.hid (by
            have h1 := HBack.out _ _ HI.out
            have e : hdr2 L j = hdr2 L 316 := by
              unfold hdr2
              rw [List.take_of_length_le (by rw [Hq.out]; exact Nat.le_refl _), List.take_of_length_le (by rw [Hq.out]; omega)]
            rw [e] at h1
            unfold hdrB
            simpa only [List.append_assoc] using h1)
          clear HI HBack HC6 HLen HHF
          go_wp2
          go_end0
          exact ⟨rfl, H8.out⟩
end Go.Proofs.Ytjlkjebmilfgoaa

/- Layer 11, the program: how many bits blocks take. -/
namespace Go.Proofs.Ytjlkjebmilfgoaa
open Go.RowKit

/-- A whole struct loaded in a region that draws its order. -/
theorem yields_st {P : Program} {a : Act} {o : Oper} (ty : TypeId) (x : Operand) (ho : o.op = .load ty x) (g : Nat) (hx : a.eval x = .pointer (some ⟨g, 0, none⟩)) (t : TypeId) (cs : List Value) {d : TypeDesc} (hu : P.underlying ty = some d) (hd : (match d with | .struct _ | .array _ _ => true | _ => false) = true)
    (hi : (P.info? ty).map (·.size) = some cs.length) (W : World) (hg : Is W g t cs) : (execOp a.eval o).run P W = .ok (.value (.agg cs.toArray)) W := by
  unfold execOp
  simp only [ho, hx, Instr.loadAt, Instr.sureAddr, Sem.run_bind, Sem.run_pure, Result.andThen_ok, run_loadVar_row W g t ty cs.toArray (0, 0) _ hg hu hd (by simpa using hi)]

set_option maxRecDepth 20000 in
set_option maxHeartbeats 4000000 in
theorem lsize (lo hi : Nat) (L : List Nat) (g1 g2 : Nat) (A3 : Option Addr) (q3 c3 g4 : Nat) (w : World) (hl : LnsAt lo hi w L g1 g2 A3 q3 g4) (hhi : hi ≤ w.heap.size) (hL : L.length = 317) :
    Calls Try.prog 20 #[lnsV L g1 g2 A3 q3 c3 g4] w fun e w' => e = .returned (.int .i64 ((hdrB L).length : Nat)) ∧ Only (fun _ => False) w w' := by
  obtain ⟨nA, hnA⟩ : ∃ nA, (ownA L).length = nA := ⟨_, rfl⟩
  obtain ⟨nB, hnB⟩ : ∃ nB, (ownB L).length = nB := ⟨_, rfl⟩
  have hV : lnsV L g1 g2 A3 q3 c3 g4 = .agg #[.slice (some ⟨g1, 0, none⟩) nA 286, .slice (some ⟨g2, 0, none⟩) nB 30, .slice A3 q3 c3, .slice (some ⟨g4, 0, none⟩) 19 19] := by unfold lnsV; rw [hnA, hnB]
  obtain ⟨wa, hwa⟩ : ∃ wa, w.alloc (.cells #[.slice (some ⟨g1, 0, none⟩) nA 286, .slice (some ⟨g2, 0, none⟩) nB 30, .slice A3 q3 c3, .slice (some ⟨g4, 0, none⟩) 19 19] 56) = wa := ⟨_, rfl⟩
  have hoa : Only (fun _ => False) w wa := by rw [← hwa]; exact (Only.refl _ w).alloc _
  obtain ⟨K, hK⟩ : ∃ K, w.heap.size = K := ⟨_, rfl⟩
  have hIa : Is wa K 56 [.slice (some ⟨g1, 0, none⟩) nA 286, .slice (some ⟨g2, 0, none⟩) nB 30, .slice A3 q3 c3, .slice (some ⟨g4, 0, none⟩) 19 19] := by rw [← hwa, ← hK]; exact Is.new w _ _
  have HNW := Lib.hid (newWf wa)
  have HW : Hid (∀ wx b, Wf wx b (fun j => j = b) [] → wa.heap.size ≤ b → Only (fun _ => False) wa wx → Calls Try.prog 38 #[.agg #[.slice (some ⟨g1, 0, none⟩) nA 286, .slice (some ⟨g2, 0, none⟩) nB 30, .slice A3 q3 c3, .slice (some ⟨g4, 0, none⟩) 19 19], .pointer (some ⟨b, 0, none⟩)] wx (PutW wx b (fun j => j = b) (hdrB L))) := Lib.hid fun wx b hw hb ho => by
    have := lwrite b _ [] lo hi L g1 g2 A3 q3 c3 g4 wx hw (hl.new (hoa.trans ho)) (fun j _ h2 e => by have := hoa.size; omega) (by have := hoa.size; have := ho.size; omega) (by simp) hL
    rw [hV, List.nil_append] at this
    exact this
  have HLn : Hid (∀ wx wy b F, WfP wx b F (hdrB L) wy → Calls Try.prog 7 #[.pointer (some ⟨b, 0, none⟩)] wy fun e w' => e = .returned (.int .i64 ((hdrB L).length : Nat)) ∧ wy = w') := Lib.hid fun wx wy b F hw => wlen b _ _ wy hw.wf
  have HO := Lib.hid hoa
  have HIa : Hid (∀ wx, Only (fun _ => False) wa wx → Is wx K 56 [.slice (some ⟨g1, 0, none⟩) nA 286, .slice (some ⟨g2, 0, none⟩) nB 30, .slice A3 q3 c3, .slice (some ⟨g4, 0, none⟩) 19 19]) := Lib.hid fun wx ho => hIa.only ho fun f => f
  rw [hV]
  obtain ⟨R, hR⟩ : ∃ R, (hdrB L).length = R := ⟨_, rfl⟩
  rw [hR] at HLn ⊢
  clear hl hhi hL hoa hIa hnA hnB hV hR
  go_enter Try.func20, Try.ntmps20
  go_wp2_with fail
  refine HNW.out.mono ?_
  rintro e w1 ⟨rfl, hwf, o1⟩
  obtain ⟨b, hb⟩ : ∃ b, wa.heap.size = b := ⟨_, rfl⟩
  rw [hb] at hwf ⊢
  have HW1 := Lib.hid (HW.out w1 b hwf (by omega) o1)
  have HO1 := Lib.hid o1
  have HI1 := Lib.hid (HIa.out w1 o1)
  have Hb := Lib.hid hb
  have i0 := HI1.out.cell 0 rfl
  have i1 := HI1.out.cell 1 rfl
  have i2 := HI1.out.cell 2 rfl
  have i3 := HI1.out.cell 3 rfl
  clear hwf o1 HNW HW HIa hb
  go_wp2_with fail
  refine HW1.out.mono ?_
  rintro e w2 ⟨rfl, q2⟩
  have H2 := Lib.hid (HLn.out w1 w2 b _ q2)
  have HO2 : Hid (Only (fun _ => False) w w2) := Lib.hid ((HO.out.trans HO1.out).andThen q2.only fun j e => .inr (by have := HO.out.size; have := Hb.out; omega))
  clear q2 HW1 HLn i0 i1 i2 i3
  go_wp2_with fail
  refine H2.out.mono ?_
  rintro e w3 ⟨rfl, rfl⟩
  go_wp2
  go_ret
  exact ⟨rfl, HO2.out⟩

set_option maxRecDepth 20000 in
set_option maxHeartbeats 4000000 in
theorem lcodes (lo hi : Nat) (L : List Nat) (g1 g2 : Nat) (A3 : Option Addr) (q3 c3 g4 : Nat) (w : World) (hl : LnsAt lo hi w L g1 g2 A3 q3 g4) (hhi : hi ≤ w.heap.size) (hL : L.length = 317) :
    Calls Try.prog 21 #[lnsV L g1 g2 A3 q3 c3 g4] w (Codes2P w (ownA L) (ownB L)) := by
  have hA := ownA_len hL
  have hB := ownB_len hL
  obtain ⟨nA, hnA⟩ : ∃ nA, (ownA L).length = nA := ⟨_, rfl⟩
  obtain ⟨nB, hnB⟩ : ∃ nB, (ownB L).length = nB := ⟨_, rfl⟩
  rw [hnA] at hA
  rw [hnB] at hB
  have hV : lnsV L g1 g2 A3 q3 c3 g4 = .agg #[.slice (some ⟨g1, 0, none⟩) nA 286, .slice (some ⟨g2, 0, none⟩) nB 30, .slice A3 q3 c3, .slice (some ⟨g4, 0, none⟩) 19 19] := by unfold lnsV; rw [hnA, hnB]
  obtain ⟨wa, hwa⟩ : ∃ wa, w.alloc (.cells #[.slice (some ⟨g1, 0, none⟩) nA 286, .slice (some ⟨g2, 0, none⟩) nB 30, .slice A3 q3 c3, .slice (some ⟨g4, 0, none⟩) 19 19] 56) = wa := ⟨_, rfl⟩
  obtain ⟨wb, hwb⟩ : ∃ wb, wa.alloc (.cells #[.pointer none, .pointer none] 45) = wb := ⟨_, rfl⟩
  have hoa : Only (fun _ => False) w wa := by rw [← hwa]; exact (Only.refl _ w).alloc _
  have hob : Only (fun _ => False) wa wb := by rw [← hwb]; exact (Only.refl _ wa).alloc _
  obtain ⟨K, hK⟩ : ∃ K, w.heap.size = K := ⟨_, rfl⟩
  obtain ⟨K2, hK2⟩ : ∃ K2, wa.heap.size = K2 := ⟨_, rfl⟩
  have hIa : Is wb K 56 [.slice (some ⟨g1, 0, none⟩) nA 286, .slice (some ⟨g2, 0, none⟩) nB 30, .slice A3 q3 c3, .slice (some ⟨g4, 0, none⟩) 19 19] := by
    have : Is wa K 56 [.slice (some ⟨g1, 0, none⟩) nA 286, .slice (some ⟨g2, 0, none⟩) nB 30, .slice A3 q3 c3, .slice (some ⟨g4, 0, none⟩) 19 19] := by rw [← hwa, ← hK]; exact Is.new w _ _
    exact this.only hob fun f => f
  have hIb : Is wb K2 45 [.pointer none, .pointer none] := by rw [← hwb, ← hK2]; exact Is.new wa _ _
  have hlb := hl.new (hoa.trans hob)
  have zb := (hoa.trans hob).size
  have HN : Hid (Calls Try.prog 26 #[.slice (some ⟨g1, 0, none⟩) nA 286, .slice (some ⟨g2, 0, none⟩) nB 30] wb (Codes2P wb (ownA L) (ownB L))) := Lib.hid (bnewCodes _ _ nA 286 nB 30 _ _ wb (hlb.s1.more (by omega)) (hlb.s2.more (by omega)) hnA hnB (by omega) (by omega) (ownA_low hL) (ownB_low hL) (kdA hL) (kdB hL))
  have FIN : Hid (∀ w4 T1 T2 hh, Only (fun _ => False) wb w4 → Cod2 w4 wb.heap.size hh T1 T2 (ownA L) (ownB L) →
      Codes2P w (ownA L) (ownB L) (.returned (.agg #[.pointer (some ⟨T1, 0, none⟩), .pointer (some ⟨T2, 0, none⟩)])) ((w4.setCell ⟨K2, 0, none⟩ (.pointer (some ⟨T1, 0, none⟩))).setCell ⟨K2, 1, none⟩ (.pointer (some ⟨T2, 0, none⟩))) ∧ Is w4 K2 45 [.pointer none, .pointer none] ∧ Is ((w4.setCell ⟨K2, 0, none⟩ (.pointer (some ⟨T1, 0, none⟩))).setCell ⟨K2, 1, none⟩ (.pointer (some ⟨T2, 0, none⟩))) K2 45 [.pointer (some ⟨T1, 0, none⟩), .pointer (some ⟨T2, 0, none⟩)]) := Lib.hid fun w4 T1 T2 hh o4 hc => by
    have i4 := hIb.only o4 fun f => f
    have ow : Only (· = K2) w4 ((w4.setCell ⟨K2, 0, none⟩ (.pointer (some ⟨T1, 0, none⟩))).setCell ⟨K2, 1, none⟩ (.pointer (some ⟨T2, 0, none⟩))) := (Only.one w4 K2 0 _).trans (Only.one _ K2 1 _)
    have hka := hIb.lt
    have za := hoa.size
    have hk := hc.keep ow fun j a b e => by omega
    refine ⟨⟨T1, T2, hh, rfl, ⟨hk.t1.less (by omega), hk.t2.less (by omega), hk.h1, hk.h2, hk.hh, hk.l1, hk.l2⟩, ((hoa.trans hob).trans o4).andThen ow fun j e => .inr (by omega)⟩, i4, (i4.set 0 _).set 1 _⟩
  have i0 := hIa.cell 0 rfl
  have i1 := hIa.cell 1 rfl
  rw [hV]
  clear hl hhi hL hoa hob hIa hIb hnA hnB hV hlb zb hA hB
  go_enter Try.func21, Try.ntmps21
  go_wp2_with fail
  refine HN.out.mono ?_
  rintro e w4 ⟨T1, T2, hh, rfl, hc, o4⟩
  obtain ⟨f1, f2, f3⟩ := FIN.out w4 T1 T2 hh o4 hc
  have HF := Lib.hid f1
  have HF3 := Lib.hid f3
  have g0 := f2.cell 0 rfl
  have g1' := f2.cell 1 rfl
  have z0 := f2.frozen 0
  have z1 := f2.frozen 1
  clear f1 f2 f3 hc o4 HN FIN i0 i1
  go_wp2
  refine bodyPost_ret (results_cell_row rfl _ _ K2 45 _ (0, 0) _ rfl HF3.out Try.underlying45 rfl (by kernel_rfl)) rfl ?_
  exact HF.out
end Go.Proofs.Ytjlkjebmilfgoaa

/- Layer 11, the program: Sizes. -/
namespace Go.Proofs.Ytjlkjebmilfgoaa
open Go.RowKit

/-- How many bits a block of kind 1 has, and of kind 2. -/
def plainN (ts : List Tk) : Nat := 3 + sizeF fixA fixB (talF ts)
def ownN (ts : List Tk) : Nat := 3 + (hdrB (talF ts)).length + sizeF (ownA (talF ts)) (ownB (talF ts)) (talF ts)
theorem tal_le (ts : List Tk) (hm : allB ts = true) (hn : ts.length ≤ 30000) (i : Nat) : ln (talF ts) i ≤ 600001 := by
  have hmay : ∀ t ∈ ts, mayB t = true := fun t ht => List.all_eq_true.1 hm t ht
  have h := talTo_le ts hmay i
  unfold talF
  rw [ln_up _ _ _ _ (by rw [talTo_length]; decide)]
  split <;> omega
theorem hdrB_length (L : List Nat) (h : (ownR L).length ≤ 316) : (hdrB L).length ≤ 8000 := by
  have h1 := hdr0_length L
  have h2 := hdr1_length L 19
  have h3 := hdr2_length L 316 h
  unfold hdrB
  rw [List.length_append, List.length_append]
  omega
def SizesP (w : World) (x y : Nat) (e : Ending) (w' : World) : Prop := e = .returned (.tuple #[.int .i64 x, .int .i64 y, .int .i64 0]) ∧ Only (fun _ => False) w w'
set_option maxRecDepth 20000 in
set_option maxHeartbeats 8000000 in
theorem sizes (A : Option Addr) (n c B : Nat) (ts : List Tk) (w : World) (h : See w B A (tks ts)) (hn : ts.length = n) (hb : n ≤ 30000) (hm : allB ts = true) :
    Calls Try.prog 10 #[.slice A n c] w (SizesP w (plainN ts) (ownN ts)) := by
  have HMay : Hid (Calls Try.prog 14 #[.slice A n c] w fun e w' => e = .returned (.bool true) ∧ Only (fun _ => False) w w') := Lib.hid (by
    have := allMay A n c B ts w h hn hb
    rw [hm] at this
    exact this)
  have HTal : Hid (∀ w1, Only (fun _ => False) w w1 → Calls Try.prog 17 #[.slice A n c] w1 (TalP w1 (talF ts))) := Lib.hid fun w1 o1 => tallyOf A n c B ts w1 (h.new o1) hn hb hm
  have hle := tal_le ts hm (by omega)
  have hlen := talF_length ts
  unfold plainN ownN
  obtain ⟨L, hL⟩ : ∃ L, talF ts = L := ⟨_, rfl⟩
  rw [hL] at HTal hle hlen ⊢
  have HNL : Hid (∀ w1, Calls Try.prog 18 #[.agg (ints L).toArray] w1 (LnsP w1 L)) := Lib.hid fun w1 => newLengths L w1 hlen fun i => Nat.le_trans (hle i) (by decide)
  have HPC : Hid (∀ w1, Calls Try.prog 15 #[] w1 (Codes2P w1 fixA fixB)) := Lib.hid plainCodes
  have HCS : Hid (∀ w1 lo hi T1 T2 la lb, Cod2 w1 lo hi T1 T2 la lb → Calls Try.prog 19 #[.agg #[.pointer (some ⟨T1, 0, none⟩), .pointer (some ⟨T2, 0, none⟩)], .agg (ints L).toArray] w1 fun e w' => e = .returned (.int .i64 (sizeF la lb L : Nat)) ∧ Only (fun _ => False) w1 w') := Lib.hid fun w1 lo hi T1 T2 la lb hc => csize lo hi T1 T2 la lb L w1 hc hlen fun i => Nat.le_trans (hle i) (by decide)
  have HLS : Hid (∀ w1 lo hi g1 g2 A3 q3 c3 g4, LnsAt lo hi w1 L g1 g2 A3 q3 g4 → hi ≤ w1.heap.size → Calls Try.prog 20 #[lnsV L g1 g2 A3 q3 c3 g4] w1 fun e w' => e = .returned (.int .i64 ((hdrB L).length : Nat)) ∧ Only (fun _ => False) w1 w') := Lib.hid fun w1 lo hi g1 g2 A3 q3 c3 g4 hl hh => lsize lo hi L g1 g2 A3 q3 c3 g4 w1 hl hh hlen
  have HLC : Hid (∀ w1 lo hi g1 g2 A3 q3 c3 g4, LnsAt lo hi w1 L g1 g2 A3 q3 g4 → hi ≤ w1.heap.size → Calls Try.prog 21 #[lnsV L g1 g2 A3 q3 c3 g4] w1 (Codes2P w1 (ownA L) (ownB L))) := Lib.hid fun w1 lo hi g1 g2 A3 q3 c3 g4 hl hh => lcodes lo hi L g1 g2 A3 q3 c3 g4 w1 hl hh hlen
  have hsz : ∀ la lb, Low la → Low lb → sizeF la lb L ≤ 10000000000 := fun la lb ha hb => by
    have h1 := dot_le L la 600001 ha hle 286
    have h2 := dot_le (L.drop 286) lb 600001 hb (fun i => by rw [ln_drop]; exact hle _) 30
    have h3 := hle 316
    unfold sizeF
    omega
  have hs1 := hsz fixA fixB low_fixA low_fixB
  have hs2 := hsz (ownA L) (ownB L) (ownA_low hlen) (ownB_low hlen)
  have HHd : Hid (∀ lo hi w1 g1 g2 A3 q3 g4, LnsAt lo hi w1 L g1 g2 A3 q3 g4 → (hdrB L).length ≤ 8000) := Lib.hid fun lo hi w1 g1 g2 A3 q3 g4 hl => hdrB_length L (by rw [hl.q]; exact hl.q2)
  obtain ⟨X, hX⟩ : ∃ X, sizeF fixA fixB L = X := ⟨_, rfl⟩
  obtain ⟨Y, hY⟩ : ∃ Y, sizeF (ownA L) (ownB L) L = Y := ⟨_, rfl⟩
  obtain ⟨Z, hZ⟩ : ∃ Z, (hdrB L).length = Z := ⟨_, rfl⟩
  rw [hX] at hs1
  rw [hY] at hs2
  rw [hZ] at HLS HHd
  rw [hX, hY, hZ]
  have HX := Lib.hid hX
  have HY := Lib.hid hY
  have HV : Hid (∃ nA nB, ∀ g1 g2 A3 q3 c3 g4, lnsV L g1 g2 A3 q3 c3 g4 = .agg #[.slice (some ⟨g1, 0, none⟩) nA 286, .slice (some ⟨g2, 0, none⟩) nB 30, .slice A3 q3 c3, .slice (some ⟨g4, 0, none⟩) 19 19]) := Lib.hid ⟨_, _, fun _ _ _ _ _ _ => rfl⟩
  obtain ⟨ks, hks⟩ : ∃ ks, ints L = ks := ⟨_, rfl⟩
  have hkl : ks.length = 317 := by rw [← hks, ints_length, hlen]
  have hk1 : ∀ v ∈ ks, v.oneCell' = true := by rw [← hks]; exact ints_one _
  have HTal2 : Hid (∀ w1, Only (fun _ => False) w w1 → Calls Try.prog 17 #[.slice A n c] w1 fun e w' => e = .returned (.agg ks.toArray) ∧ Only (fun _ => False) w1 w') := Lib.hid fun w1 o1 => by
    refine (HTal.out w1 o1).mono fun e w' q => ?_
    rw [TalP, hks] at q
    exact q
  rw [hks] at HNL HCS
  have HKl := Lib.hid hkl
  have HK1 := Lib.hid hk1
  clear h hn hm hle hlen hL hsz hX hY hZ hks hkl hk1 HTal
  go_enter Try.func10, Try.ntmps10
  go_wp2_with fail
  refine HMay.out.mono ?_
  rintro e w1 ⟨rfl, o1⟩
  have HO1 := Lib.hid o1
  clear o1 HMay
  go_wp2_with fail
  refine (HTal2.out w1 HO1.out).mono ?_
  rintro e w2 ⟨rfl, o2⟩
  have HO2 := Lib.hid (HO1.out.trans o2)
  clear o2 HTal2 HO1
  have hz : Is (w2.alloc (.cells Try.zeroCells51 51)) w2.heap.size 51 (ints tal0) := by rw [zeroTal]; exact Is.new w2 _ _
  have HZ0 := Lib.hid hz
  clear hz
  go_wp2_with (first
    | ((with_reducible show wpList _ _ _ (Oper.mk _ (Op.store _ _ _) _ _ _ _ :: _) _ _); refine wpList_store_is rfl 51 (.tmp 5) (.tmp 13) rfl w2.heap.size ks rfl rfl 51 _ HZ0.out (by rw [HKl.out]; exact infoTal) (by rw [HKl.out, ints_length, tal0, List.length_replicate]) HK1.out ?_; intro w3 hi3 ho3; have HI3 := Lib.hid hi3; have HO3 : Hid (Only (fun _ => False) w2 w3) := Lib.hid (((Only.refl _ w2).alloc _).andThen ho3 fun j e => .inr (by omega)); clear hi3 ho3)
    | ((with_reducible show wpList _ _ _ (Oper.mk _ (Op.load _ _) _ _ _ _ :: _) _ _); refine wpList_load_st rfl 51 (.tmp 5) rfl w2.heap.size rfl 51 _ HI3.out Try.underlying51 rfl (by rw [HKl.out]; exact infoTal) ?_))
  refine (HNL.out w3).mono ?_
  rintro e w4 ⟨g1, g2, A3, q3, c3, g4, rfl, hl4, o4⟩
  obtain ⟨nA, nB, hv⟩ := HV.out
  have HV2 := Lib.hid hv
  rw [hv]
  have HL4 := Lib.hid hl4
  have HI4 : Hid (Is w4 w2.heap.size 51 ks) := Lib.hid (HI3.out.only o4 fun f => f)
  have HO4 : Hid (Only (fun _ => False) w w4) := Lib.hid (HO2.out.trans (HO3.out.trans o4))
  obtain ⟨T, hT⟩ : ∃ T, w2.heap.size = T := ⟨_, rfl⟩
  rw [hT] at HI4
  clear hv hl4 o4 HNL HO2 HO3 HI3 HZ0 HV
  try rw [hT]
  clear hT
  go_upto_region 5 with fail
  obtain ⟨w5, hw5⟩ : ∃ w5, w4.alloc (.cells #[.slice (some ⟨g1, 0, none⟩) nA 286, .slice (some ⟨g2, 0, none⟩) nB 30, .slice A3 q3 c3, .slice (some ⟨g4, 0, none⟩) 19 19] 56) = w5 := ⟨_, rfl⟩
  obtain ⟨T6, hT6⟩ : ∃ T6, w4.heap.size = T6 := ⟨_, rfl⟩
  have ho5 : Only (fun _ => False) w4 w5 := by rw [← hw5]; exact (Only.refl _ w4).alloc _
  have HI5 : Hid (Is w5 T 51 ks ∧ Is w5 T6 56 [.slice (some ⟨g1, 0, none⟩) nA 286, .slice (some ⟨g2, 0, none⟩) nB 30, .slice A3 q3 c3, .slice (some ⟨g4, 0, none⟩) 19 19] ∧ LnsAt w3.heap.size T6 w5 L g1 g2 A3 q3 g4 ∧ T6 ≤ w5.heap.size ∧ Only (fun _ => False) w w5) := Lib.hid (by
    refine ⟨HI4.out.only ho5 fun f => f, ?_, ?_, ?_, HO4.out.trans ho5⟩
    · rw [← hw5, ← hT6]; exact Is.new w4 _ _
    · rw [← hT6]; exact HL4.out.new ho5
    · rw [← hT6]; exact ho5.size)
  rw [hw5, hT6]
  clear hw5 hT6 ho5 HI4 HL4 HO4
  have HSt : Hid (∀ wx wy, (Is wx T 51 ks ∧ Is wx T6 56 [.slice (some ⟨g1, 0, none⟩) nA 286, .slice (some ⟨g2, 0, none⟩) nB 30, .slice A3 q3 c3, .slice (some ⟨g4, 0, none⟩) 19 19] ∧ LnsAt w3.heap.size T6 wx L g1 g2 A3 q3 g4 ∧ T6 ≤ wx.heap.size ∧ Only (fun _ => False) w wx) → Only (fun _ => False) wx wy → (Is wy T 51 ks ∧ Is wy T6 56 [.slice (some ⟨g1, 0, none⟩) nA 286, .slice (some ⟨g2, 0, none⟩) nB 30, .slice A3 q3 c3, .slice (some ⟨g4, 0, none⟩) 19 19] ∧ LnsAt w3.heap.size T6 wy L g1 g2 A3 q3 g4 ∧ T6 ≤ wy.heap.size ∧ Only (fun _ => False) w wy)) := Lib.hid fun wx wy h o => ⟨h.1.only o fun f => f, h.2.1.only o fun f => f, h.2.2.1.new o, Nat.le_trans h.2.2.2.1 o.size, h.2.2.2.2.trans o⟩
  have HI5d := Lib.hid (HSt.out w5 w5.drew HI5.out ((Only.refl _ w5).drew))
  clear HI5
  refine Steps.region (fun W => Is W T 51 ks ∧ Is W T6 56 [.slice (some ⟨g1, 0, none⟩) nA 286, .slice (some ⟨g2, 0, none⟩) nB 30, .slice A3 q3 c3, .slice (some ⟨g4, 0, none⟩) 19 19] ∧ LnsAt w3.heap.size T6 W L g1 g2 A3 q3 g4 ∧ T6 ≤ W.heap.size ∧ Only (fun _ => False) w W) [(true, 1), (false, 0), (false, 2), (true, 3), (true, 4)] (by kernel_rfl) (by kernel_rfl) rfl (by kernel_rfl) (fun _ _ d _ _ h => by cases d <;> exact h) ?_
  refine Steps.take (.agg ks.toArray) rfl HI5d.out (fun W hW => yields_st 51 (.tmp 5) rfl T rfl 51 ks Try.underlying51 rfl (by rw [HKl.out]; exact infoTal) W hW.1) ?_
  simp only [Act.put, List.setIfInBounds_toArray, List.set_cons_succ, List.set_cons_zero]
  refine Steps.call 15 #[] rfl (by kernel_rfl) ((HPC.out _).mono ?_)
  rintro e w6 ⟨T1, T2, hi2, rfl, hc, o6⟩
  have HI6 := Lib.hid (HSt.out _ w6 HI5d.out o6)
  have hcs := HCS.out w6 _ _ _ _ _ _ hc
  rw [HX.out] at hcs
  have HCS6 := Lib.hid hcs
  clear hc o6 hcs HI5d
  refine ⟨_, rfl, HI6.out, ?_⟩
  simp only [Act.put, List.setIfInBounds_toArray, List.set_cons_succ, List.set_cons_zero]
  refine Steps.call 19 #[.agg #[.pointer (some ⟨T1, 0, none⟩), .pointer (some ⟨T2, 0, none⟩)], .agg ks.toArray] rfl (by kernel_rfl) (HCS6.out.mono ?_)
  rintro e w7 ⟨rfl, o7⟩
  have HI7 := Lib.hid (HSt.out _ w7 HI6.out o7)
  clear o7 HI6 HCS6
  refine ⟨_, rfl, HI7.out, ?_⟩
  simp only [Act.put, List.setIfInBounds_toArray, List.set_cons_succ, List.set_cons_zero]
  refine Steps.take (.int .i64 ((3 + X : Nat) : Int)) rfl HI7.out (fun _ _ => by go_simp; rw [IntWalk.i64_in _ (by omega)]) ?_
  simp only [Act.put, List.setIfInBounds_toArray, List.set_cons_succ, List.set_cons_zero]
  refine Steps.take (.int .i64 ((3 + X : Nat) : Int)) rfl HI7.out (fun _ _ => by kernel_rfl) ?_
  simp only [Act.put, List.setIfInBounds_toArray, List.set_cons_succ, List.set_cons_zero]
  show wpList _ _ _ _ _ _
  go_upto_region 6 with fail
  have HI7d := Lib.hid (HSt.out w7 w7.drew HI7.out ((Only.refl _ w7).drew))
  have hz8 := HHd.out _ _ _ _ _ _ _ _ HI7.out.2.2.1
  clear HI7 HPC HHd
  refine Steps.region (fun W => Is W T 51 ks ∧ Is W T6 56 [.slice (some ⟨g1, 0, none⟩) nA 286, .slice (some ⟨g2, 0, none⟩) nB 30, .slice A3 q3 c3, .slice (some ⟨g4, 0, none⟩) 19 19] ∧ LnsAt w3.heap.size T6 W L g1 g2 A3 q3 g4 ∧ T6 ≤ W.heap.size ∧ Only (fun _ => False) w W) [(true, 0), (true, 3), (true, 5), (false, 1), (true, 2), (false, 4), (false, 6), (true, 7), (true, 8)] (by kernel_rfl) (by kernel_rfl) rfl (by kernel_rfl) (fun _ _ d _ _ h => by cases d <;> exact h) ?_
  refine Steps.take (.agg #[.slice (some ⟨g1, 0, none⟩) nA 286, .slice (some ⟨g2, 0, none⟩) nB 30, .slice A3 q3 c3, .slice (some ⟨g4, 0, none⟩) 19 19]) rfl HI7d.out (fun W hW => yields_st 56 (.tmp 6) rfl T6 rfl 56 [.slice (some ⟨g1, 0, none⟩) nA 286, .slice (some ⟨g2, 0, none⟩) nB 30, .slice A3 q3 c3, .slice (some ⟨g4, 0, none⟩) 19 19] Try.underlying56 rfl (by kernel_rfl) W hW.2.1) ?_
  simp only [Act.put, List.setIfInBounds_toArray, List.set_cons_succ, List.set_cons_zero]
  refine Steps.take (.agg #[.slice (some ⟨g1, 0, none⟩) nA 286, .slice (some ⟨g2, 0, none⟩) nB 30, .slice A3 q3 c3, .slice (some ⟨g4, 0, none⟩) 19 19]) rfl HI7d.out (fun W hW => yields_st 56 (.tmp 6) rfl T6 rfl 56 [.slice (some ⟨g1, 0, none⟩) nA 286, .slice (some ⟨g2, 0, none⟩) nB 30, .slice A3 q3 c3, .slice (some ⟨g4, 0, none⟩) 19 19] Try.underlying56 rfl (by kernel_rfl) W hW.2.1) ?_
  simp only [Act.put, List.setIfInBounds_toArray, List.set_cons_succ, List.set_cons_zero]
  refine Steps.take (.agg ks.toArray) rfl HI7d.out (fun W hW => yields_st 51 (.tmp 5) rfl T rfl 51 ks Try.underlying51 rfl (by rw [HKl.out]; exact infoTal) W hW.1) ?_
  simp only [Act.put, List.setIfInBounds_toArray, List.set_cons_succ, List.set_cons_zero]
  have hls := HLS.out w7.drew _ _ g1 g2 A3 q3 c3 g4 HI7d.out.2.2.1 HI7d.out.2.2.2.1
  rw [HV2.out] at hls
  have HLS7 := Lib.hid hls
  clear hls HLS
  refine Steps.call 20 #[.agg #[.slice (some ⟨g1, 0, none⟩) nA 286, .slice (some ⟨g2, 0, none⟩) nB 30, .slice A3 q3 c3, .slice (some ⟨g4, 0, none⟩) 19 19]] rfl (by kernel_rfl) (HLS7.out.mono ?_)
  rintro e w8 ⟨rfl, o8⟩
  have HI8 := Lib.hid (HSt.out _ w8 HI7d.out o8)
  clear o8 HI7d HLS7
  refine ⟨_, rfl, HI8.out, ?_⟩
  simp only [Act.put, List.setIfInBounds_toArray, List.set_cons_succ, List.set_cons_zero]
  refine Steps.take (.int .i64 ((3 + Z : Nat) : Int)) rfl HI8.out (fun _ _ => by go_simp; rw [IntWalk.i64_in _ (by omega)]) ?_
  simp only [Act.put, List.setIfInBounds_toArray, List.set_cons_succ, List.set_cons_zero]
  have hlc := HLC.out w8 _ _ g1 g2 A3 q3 c3 g4 HI8.out.2.2.1 HI8.out.2.2.2.1
  rw [HV2.out] at hlc
  have HLC8 := Lib.hid hlc
  clear hlc HLC
  refine Steps.call 21 #[.agg #[.slice (some ⟨g1, 0, none⟩) nA 286, .slice (some ⟨g2, 0, none⟩) nB 30, .slice A3 q3 c3, .slice (some ⟨g4, 0, none⟩) 19 19]] rfl (by kernel_rfl) (HLC8.out.mono ?_)
  rintro e w9 ⟨T3, T4, hi3, rfl, hc9, o9⟩
  have HI9 := Lib.hid (HSt.out _ w9 HI8.out o9)
  have hcs := HCS.out w9 _ _ _ _ _ _ hc9
  rw [HY.out] at hcs
  have HCS9 := Lib.hid hcs
  clear o9 HI8 HLC8 hcs hc9 HCS
  refine ⟨_, rfl, HI9.out, ?_⟩
  simp only [Act.put, List.setIfInBounds_toArray, List.set_cons_succ, List.set_cons_zero]
  refine Steps.call 19 #[.agg #[.pointer (some ⟨T3, 0, none⟩), .pointer (some ⟨T4, 0, none⟩)], .agg ks.toArray] rfl (by kernel_rfl) (HCS9.out.mono ?_)
  rintro e w10 ⟨rfl, o10⟩
  have HI10 := Lib.hid (HSt.out _ w10 HI9.out o10)
  clear o10 HI9 HCS9 HSt
  refine ⟨_, rfl, HI10.out, ?_⟩
  simp only [Act.put, List.setIfInBounds_toArray, List.set_cons_succ, List.set_cons_zero]
  refine Steps.take (.int .i64 ((3 + Z + Y : Nat) : Int)) rfl HI10.out (fun _ _ => by go_simp; first | done | (rw [IntWalk.i64_in _ (by omega)]; first | done | omega)) ?_
  simp only [Act.put, List.setIfInBounds_toArray, List.set_cons_succ, List.set_cons_zero]
  refine Steps.take (.int .i64 ((3 + Z + Y : Nat) : Int)) rfl HI10.out (fun _ _ => by kernel_rfl) ?_
  simp only [Act.put, List.setIfInBounds_toArray, List.set_cons_succ, List.set_cons_zero]
  show wpList _ _ _ _ _ _
  have HO := Lib.hid HI10.out.2.2.2.2
  clear HI10
  go_wp2
  refine bodyPost_ret (results_slots [2, 3, 4] (by decide) rfl) rfl ?_
  exact ⟨rfl, HO.out⟩
theorem sizes_bad (A : Option Addr) (n c B : Nat) (ts : List Tk) (w : World) (hs : See w B A (tks ts)) (hn : ts.length = n) (hb : n ≤ 30000) (hm : allB ts = false) :
    Calls Try.prog 10 #[.slice A n c] w fun e w' => e = .returned (.tuple #[.int .i64 0, .int .i64 0, .int .i64 1]) ∧ Only (fun _ => False) w w' := by
  have HM : Hid (Calls Try.prog 14 #[.slice A n c] w fun e w' => e = .returned (.bool false) ∧ Only (fun _ => False) w w') := Lib.hid (by
    have := allMay A n c B ts w hs hn hb
    rw [hm] at this
    exact this)
  clear hs hn hm
  go_enter Try.func10, Try.ntmps10
  go_wp2_with fail
  refine HM.out.mono ?_
  rintro e w1 ⟨rfl, o1⟩
  have HO1 := Lib.hid o1
  clear o1 HM
  go_wp2
  refine bodyPost_ret (results_slots [2, 3, 4] (by decide) rfl) rfl ?_
  exact ⟨rfl, HO1.out⟩
end Go.Proofs.Ytjlkjebmilfgoaa
