/- Layer 11, the program: what a block of kind 2 tells ahead of its symbols. -/
import Derived.Test.YtjlkjebmilfgoaaKFirst
import Derived.Test.YtjlkjebmilfgoaaKTal
import Derived.Test.YtjlkjebmilfgoaaKSize
import Derived.Test.YtjlkjebmilfgoaaXP
import Derived.Test.YtjlkjebmilfgoaaKShape
namespace Go.Proofs.Ytjlkjebmilfgoaa
open Go.RowKit

/-- The lengths of symbols, and of distances; the row, as symbols; the first code's lengths. -/
def ownA (L : List Nat) : List Nat := trimF (lens6 (L.take 286) 15) 257
def ownB (L : List Nat) : List Nat := trimF (lens6 ((L.drop 286).take 30) 15) 1
def ownR (L : List Nat) : List Ru := packF (ownA L ++ ownB L)
def ownF (L : List Nat) : List Nat := lens6 (countF (ownR L)) 7

theorem some_le (c : List Nat) : some_ c ≤ c.length := List.length_filter_le _ _
theorem lens6_facts (c : List Nat) (most : Nat) (hm : 1 ≤ most) (hm15 : most ≤ 15) (hs : some_ c ≤ 2 ^ most) : (lens6 c most).length = c.length ∧ ∀ i, ln (lens6 c most) i ≤ most :=
  ⟨(lens6_good' c most hm hm15 hs).len, (lens6_good' c most hm hm15 hs).top⟩
theorem mem_ln {l : List Nat} {x : Nat} (h : x ∈ l) : ∃ i, i < l.length ∧ ln l i = x := by
  obtain ⟨i, hi, rfl⟩ := List.getElem_of_mem h
  exact ⟨i, hi, by simp [ln, hi]⟩
section
variable {L : List Nat} (hL : L.length = 317)
include hL
theorem takeA : (L.take 286).length = 286 := by rw [List.length_take]; omega
theorem takeB : ((L.drop 286).take 30).length = 30 := by rw [List.length_take, List.length_drop]; omega
theorem lenA0 : (lens6 (L.take 286) 15).length = 286 := by
  rw [(lens6_facts _ 15 (by decide) (by decide) (Nat.le_trans (some_le _) (by rw [takeA hL]; decide))).1, takeA hL]
theorem lenB0 : (lens6 ((L.drop 286).take 30) 15).length = 30 := by
  rw [(lens6_facts _ 15 (by decide) (by decide) (Nat.le_trans (some_le _) (by rw [takeB hL]; decide))).1, takeB hL]
theorem ownA_len : 257 ≤ (ownA L).length ∧ (ownA L).length ≤ 286 := by
  unfold ownA
  rw [trimF_length, lenA0 hL]
  exact ⟨trimN_ge _ _ _ (by decide), trimN_le _ _ _⟩
theorem ownB_len : 1 ≤ (ownB L).length ∧ (ownB L).length ≤ 30 := by
  unfold ownB
  rw [trimF_length, lenB0 hL]
  exact ⟨trimN_ge _ _ _ (by decide), trimN_le _ _ _⟩
theorem ownA_le (i : Nat) : ln (ownA L) i ≤ 15 := by
  unfold ownA
  rw [ln_trimF]
  exact (lens6_facts _ 15 (by decide) (by decide) (Nat.le_trans (some_le _) (by rw [takeA hL]; decide))).2 i
theorem ownB_le (i : Nat) : ln (ownB L) i ≤ 15 := by
  unfold ownB
  rw [ln_trimF]
  exact (lens6_facts _ 15 (by decide) (by decide) (Nat.le_trans (some_le _) (by rw [takeB hL]; decide))).2 i
theorem ownA_low : Low (ownA L) := fun x hx => by obtain ⟨i, _, rfl⟩ := mem_ln hx; exact ownA_le hL i
theorem ownB_low : Low (ownB L) := fun x hx => by obtain ⟨i, _, rfl⟩ := mem_ln hx; exact ownB_le hL i
end
theorem countF_len (ts : List Ru) : (countF ts).length = 19 := (count_facts ts).1
theorem ownF_facts (L : List Nat) : (ownF L).length = 19 ∧ ∀ i, ln (ownF L) i ≤ 7 := by
  have := lens6_facts (countF (ownR L)) 7 (by decide) (by decide) (Nat.le_trans (some_le _) (by rw [countF_len]; decide))
  rw [countF_len] at this
  exact this

/-- What newLengths answers, as it lies, from lo up to hi. -/
structure LnsAt (lo hi : Nat) (w : World) (L : List Nat) (g1 g2 : Nat) (A3 : Option Addr) (q3 g4 : Nat) : Prop where
  s1 : See w hi (some ⟨g1, 0, none⟩) (ints (ownA L))
  s2 : See w hi (some ⟨g2, 0, none⟩) (ints (ownB L))
  s3 : See w hi A3 (rus (ownR L))
  s4 : See w hi (some ⟨g4, 0, none⟩) (ints (ownF L))
  b1 : lo ≤ g1
  b2 : lo ≤ g2
  b3 : ∀ j, Lies A3 j → lo ≤ j
  b4 : lo ≤ g4
  q : (ownR L).length = q3
  q2 : q3 ≤ 316
  pk : PackAt (ownA L ++ ownB L) (ownA L ++ ownB L).length (ownR L)
theorem lies_one {g lo : Nat} (h : lo ≤ g) : ∀ j, Lies (some ⟨g, 0, none⟩) j → lo ≤ j := fun _ ⟨ad, e, e2⟩ => by obtain rfl := Option.some.inj e; exact e2 ▸ h
theorem LnsAt.keep {lo hi : Nat} {w w' : World} {L : List Nat} {g1 g2 q3 g4 : Nat} {A3 : Option Addr} {X : Nat → Prop} (h : LnsAt lo hi w L g1 g2 A3 q3 g4) (k : Only X w w') (hd : ∀ j, lo ≤ j → j < hi → ¬ X j) : LnsAt lo hi w' L g1 g2 A3 q3 g4 :=
  ⟨h.s1.apart (lies_one h.b1) k hd, h.s2.apart (lies_one h.b2) k hd, h.s3.apart h.b3 k hd, h.s4.apart (lies_one h.b4) k hd, h.b1, h.b2, h.b3, h.b4, h.q, h.q2, h.pk⟩
theorem LnsAt.new {lo hi : Nat} {w w' : World} {L : List Nat} {g1 g2 q3 g4 : Nat} {A3 : Option Addr} (h : LnsAt lo hi w L g1 g2 A3 q3 g4) (k : Only (fun _ => False) w w') : LnsAt lo hi w' L g1 g2 A3 q3 g4 := h.keep k fun _ _ _ f => f
/-- The answer as a value. -/
def lnsV (L : List Nat) (g1 g2 : Nat) (A3 : Option Addr) (q3 c3 g4 : Nat) : Value := .agg #[.slice (some ⟨g1, 0, none⟩) (ownA L).length 286, .slice (some ⟨g2, 0, none⟩) (ownB L).length 30, .slice A3 q3 c3, .slice (some ⟨g4, 0, none⟩) 19 19]
def LnsP (w : World) (L : List Nat) (e : Ending) (w' : World) : Prop := ∃ g1 g2 A3 q3 c3 g4, e = .returned (lnsV L g1 g2 A3 q3 c3 g4) ∧ LnsAt w.heap.size w'.heap.size w' L g1 g2 A3 q3 g4 ∧ Only (fun _ => False) w w'

set_option maxRecDepth 20000 in
set_option maxHeartbeats 8000000 in
theorem newLengths (L : List Nat) (w : World) (hL : L.length = 317) (hM : ∀ i, ln L i ≤ 1000000) :
    Calls Try.prog 18 #[.agg (ints L).toArray] w (LnsP w L) := by
  obtain ⟨cs, hcs⟩ : ∃ cs, (ints L).toArray = cs := ⟨_, rfl⟩
  obtain ⟨wa, hwa⟩ : ∃ wa, w.alloc (.cells cs 51) = wa := ⟨_, rfl⟩
  obtain ⟨wb, hwb⟩ : ∃ wb, wa.alloc (.cells #[.slice none 0 0, .slice none 0 0, .slice none 0 0, .slice none 0 0] 56) = wb := ⟨_, rfl⟩
  have hoa : Only (fun _ => False) w wa := by rw [← hwa]; exact (Only.refl _ w).alloc _
  have hob : Only (fun _ => False) wa wb := by rw [← hwb]; exact (Only.refl _ wa).alloc _
  obtain ⟨H, hH⟩ : ∃ H, w.heap.size = H := ⟨_, rfl⟩
  obtain ⟨R, hR⟩ : ∃ R, wa.heap.size = R := ⟨_, rfl⟩
  have hIa : Is wb H 51 (ints L) := by
    have : Is wa H 51 (ints L) := by rw [← hwa, ← hH, ← hcs]; exact Is.new w _ _
    exact this.only hob fun f => f
  have hIb : Is wb R 56 [.slice none 0 0, .slice none 0 0, .slice none 0 0, .slice none 0 0] := by rw [← hwb, ← hR]; exact Is.new wa _ _
  have hm1 : ∀ x ∈ L.take 286, x ≤ 1048576 := fun x hx => by
    obtain ⟨i, _, rfl⟩ := mem_ln hx
    exact ln_take_le _ _ _ _ (Nat.le_trans (hM i) (by decide))
  have hm2 : ∀ x ∈ (L.drop 286).take 30, x ≤ 1048576 := fun x hx => by
    obtain ⟨i, _, rfl⟩ := mem_ln hx
    exact ln_take_le _ _ _ _ (by rw [ln_drop]; exact Nat.le_trans (hM _) (by decide))
  have HS1 : Hid (∀ wx, Only (fun _ => False) wb wx → Calls Try.prog 33 #[.slice (some ⟨H, 0, none⟩) 286 286, .int .i64 15] wx (ShortP wx (L.take 286) 286 15)) := Lib.hid fun wx ho => by
    have hi := (hIa.only ho fun f => f).part 0 286
    rw [List.drop_zero] at hi
    exact shortest _ 286 286 _ 15 _ wx hi (takeA hL) (by decide) (by decide) hm1 (by decide) (by decide) (Nat.le_trans (some_le _) (by rw [takeA hL]; decide))
  have HS2 : Hid (∀ wx, Only (fun _ => False) wb wx → Calls Try.prog 33 #[.slice (some ⟨H, 286, none⟩) 30 30, .int .i64 15] wx (ShortP wx ((L.drop 286).take 30) 30 15)) := Lib.hid fun wx ho =>
    shortest _ 30 30 _ 15 _ wx ((hIa.only ho fun f => f).part 286 30) (takeB hL) (by decide) (by decide) hm2 (by decide) (by decide) (Nat.le_trans (some_le _) (by rw [takeB hL]; decide))
  have HT : Hid (∀ (l : List Nat) (n least g : Nat) (w1 w2 : World), Made 3 w1 (some ⟨g, 0, none⟩) n n (ints l) w2 → l.length = n → n ≤ 286 → least ≤ n → Calls Try.prog 32 #[.slice (some ⟨g, 0, none⟩) n n, .int .i64 least] w2 fun e w' => e = .returned (.slice (some ⟨g, 0, none⟩) (trimF l least).length n) ∧ w2 = w') := Lib.hid fun l n least g w1 w2 hm hl hn hle => by
    rw [trimF_length, hl]
    exact trimmed g 0 n n _ least l w2 hm.see hl (by omega) hle (Nat.le_refl _) (by omega)
  have hA := ownA_len hL
  have hB := ownB_len hL
  obtain ⟨nA, hnA⟩ : ∃ nA, (ownA L).length = nA := ⟨_, rfl⟩
  obtain ⟨nB, hnB⟩ : ∃ nB, (ownB L).length = nB := ⟨_, rfl⟩
  obtain ⟨N, hN⟩ : ∃ N, nA + nB = N := ⟨_, rfl⟩
  rw [hnA] at hA
  rw [hnB] at hB
  have hsee1 : ∀ w1 g wx, Made 3 w1 (some ⟨g, 0, none⟩) 286 286 (ints (lens6 (L.take 286) 15)) wx → See wx wx.heap.size (some ⟨g, 0, none⟩) (ints (ownA L)) := fun w1 g wx hm => by
    unfold ownA trimF
    rw [ints_take]
    exact hm.see.less _
  have hsee2 : ∀ w1 g wx, Made 3 w1 (some ⟨g, 0, none⟩) 30 30 (ints (lens6 ((L.drop 286).take 30) 15)) wx → See wx wx.heap.size (some ⟨g, 0, none⟩) (ints (ownB L)) := fun w1 g wx hm => by
    unfold ownB trimF
    rw [ints_take]
    exact hm.see.less _
  have HSee1 := Lib.hid hsee1
  have HSee2 := Lib.hid hsee2
  have HC : Hid (∀ wx G g1 g2, wx.cell? ⟨G, 0, none⟩ = some (.slice (some ⟨g1, 0, none⟩) nA 286) → wx.cell? ⟨G, 1, none⟩ = some (.slice (some ⟨g2, 0, none⟩) nB 30) → See wx wx.heap.size (some ⟨g1, 0, none⟩) (ints (ownA L)) → See wx wx.heap.size (some ⟨g2, 0, none⟩) (ints (ownB L)) → Calls Try.prog 35 #[.slice (some ⟨G, 0, none⟩) 2 2] wx (CatPost wx (ownA L ++ ownB L) N)) := Lib.hid fun wx G g1 g2 k1 k2 s1 s2 => by
    have hcat : catTo [(g1, ownA L), (g2, ownB L)] 2 = ownA L ++ ownB L := by simp [catTo]
    have := concat G 2 (fun i => if i = 0 then 286 else 30) [(g1, ownA L), (g2, ownB L)] wx rfl (by decide) (by
      intro i g l h
      match i, h with
      | 0, h =>
        obtain ⟨rfl, rfl⟩ : g1 = g ∧ ownA L = l := by simpa using h
        exact ⟨by rw [hnA]; exact k1, s1⟩
      | 1, h =>
        obtain ⟨rfl, rfl⟩ : g2 = g ∧ ownB L = l := by simpa using h
        exact ⟨by rw [hnB]; exact k2, s2⟩
      | i + 2, h => simp at h) N (by rw [hcat, List.length_append, hnA, hnB, hN]) (by omega) (by omega)
    rw [hcat] at this
    exact this
  have HP : Hid (∀ w1 wx A c, Made 3 w1 A N c (ints (ownA L ++ ownB L)) wx → Calls Try.prog 34 #[.slice A N c] wx (PackPost wx (ownA L ++ ownB L))) := Lib.hid fun w1 wx A c hm =>
    pack A N c _ _ wx hm.see (by rw [List.length_append, hnA, hnB, hN]) (by omega) fun x hx => by
      rcases List.mem_append.1 hx with h | h
      · exact ownA_low hL x h
      · exact ownB_low hL x h
  have HK : Hid (∀ (wx : World) (A : Option Addr) (q c : Nat), See wx wx.heap.size A (rus (ownR L)) → (ownR L).length = q → q ≤ 316 → Calls Try.prog 36 #[.slice A q c] wx (CountPostX wx (ownR L))) := Lib.hid fun wx A q c hs hq hq2 => counts A q c _ (ownR L) wx hs hq (by omega)
  have HF : Hid (∀ (wx : World) (C : Nat), Is wx C 74 (ints (countF (ownR L))) → (ownR L).length ≤ 316 → Calls Try.prog 33 #[.slice (some ⟨C, 0, none⟩) 19 19, .int .i64 7] wx (ShortP wx (countF (ownR L)) 19 7)) := Lib.hid fun wx C hi hq => by
    have hp := hi.part 0 19
    rw [List.drop_zero, List.take_of_length_le (by rw [countF_len]; exact Nat.le_refl _)] at hp
    exact shortest _ 19 19 _ 7 _ wx hp (countF_len _) (by decide) (by decide) (fun x hx => by
      obtain ⟨i, _, rfl⟩ := mem_ln hx
      have := (count_facts (ownR L)).2 i
      unfold ln
      omega) (by decide) (by decide) (Nat.le_trans (some_le _) (by rw [countF_len]; decide))
  have HOab := Lib.hid (hoa.trans hob)
  have HIb := Lib.hid hIb
  have HL := Lib.hid hL
  have hl1 := lenA0 hL
  have hl2 := lenB0 hL
  have HL1 := Lib.hid hl1
  have HL2 := Lib.hid hl2
  have HnA := Lib.hid hnA
  have HnB := Lib.hid hnB
  have HRb : Hid (w.heap.size ≤ R) := Lib.hid (by rw [← hR]; exact hoa.size)
  rw [hcs]
  clear hoa hob hIa hIb hm1 hm2 hsee1 hsee2 hL hM hcs hl1 hl2 hnA hnB
  go_enter Try.func18, Try.ntmps18
  go_wp2_with fail
  refine (HS1.out wb (Only.refl _ wb)).mono ?_
  rintro e w1 ⟨g1, rfl, m1⟩
  have M1 := Lib.hid m1
  clear m1 HS1
  go_wp2_with fail
  refine (HT.out _ 286 257 g1 wb w1 M1.out HL1.out (by decide) (by decide)).mono ?_
  rintro e w1' ⟨rfl, rfl⟩
  rw [show (trimF (lens6 (L.take 286) 15) 257).length = nA from HnA.out]
  go_wp2_with fail
  refine (HS2.out w1 M1.out.2.1).mono ?_
  rintro e w2 ⟨g2, rfl, m2⟩
  have M2 := Lib.hid m2
  clear m2 HS2
  go_wp2_with fail
  refine (HT.out _ 30 1 g2 w1 w2 M2.out HL2.out (by decide) (by decide)).mono ?_
  rintro e w2' ⟨rfl, rfl⟩
  rw [show (trimF (lens6 ((L.drop 286).take 30) 15) 1).length = nB from HnB.out]
  have HO2 : Hid (Only (fun _ => False) wb w2) := Lib.hid (M1.out.2.1.trans M2.out.2.1)
  obtain ⟨wc, hwc⟩ : ∃ wc, w2.alloc (.cells #[.slice (some ⟨g1, 0, none⟩) nA 286, .slice (some ⟨g2, 0, none⟩) nB 30] 53) = wc := ⟨_, rfl⟩
  obtain ⟨G, hG⟩ : ∃ G, w2.heap.size = G := ⟨_, rfl⟩
  have hoc : Only (fun _ => False) w2 wc := by rw [← hwc]; exact (Only.refl _ w2).alloc _
  have hIc : Is wc G 53 [.slice (some ⟨g1, 0, none⟩) nA 286, .slice (some ⟨g2, 0, none⟩) nB 30] := by rw [← hwc, ← hG]; exact Is.new w2 _ _
  have hs1 := ((HSee1.out wb g1 w1 M1.out).new (M2.out.2.1.trans hoc)).more (M2.out.2.1.trans hoc).size
  have hs2 := ((HSee2.out w1 g2 w2 M2.out).new hoc).more hoc.size
  have HC3 := Lib.hid (HC.out wc G g1 g2 (hIc.cell 0 rfl) (hIc.cell 1 rfl) hs1 hs2)
  have HSa := Lib.hid hs1
  have HSb := Lib.hid hs2
  have HOc : Hid (Only (fun _ => False) wb wc) := Lib.hid (HO2.out.trans hoc)
  have Hg1 : Hid (w.heap.size ≤ g1) := Lib.hid (Nat.le_trans HOab.out.size (M1.out.2.2 g1 ⟨_, rfl, rfl⟩))
  have Hg2 : Hid (w.heap.size ≤ g2) := Lib.hid (Nat.le_trans HOab.out.size (Nat.le_trans M1.out.2.1.size (M2.out.2.2 g2 ⟨_, rfl, rfl⟩)))
  have Hr1 : Hid (R < g1) := Lib.hid (by
    have hbR : wb.heap.size = R + 1 := by rw [← hwb, ← hR]; simp
    have := M1.out.2.2 g1 ⟨_, rfl, rfl⟩
    omega)
  have Hr2 : Hid (R < g2) := Lib.hid (by
    have hbR : wb.heap.size = R + 1 := by rw [← hwb, ← hR]; simp
    have := M1.out.2.1.size
    have := M2.out.2.2 g2 ⟨_, rfl, rfl⟩
    omega)
  clear hoc hIc hs1 hs2 HC HT HSee1 HSee2 HL1 HL2 M1 M2 HO2
  go_wp2_with fail
  refine HC3.out.mono ?_
  rintro e w4 ⟨A4, c4, rfl, m4⟩
  have M4 := Lib.hid m4
  have HP4 := Lib.hid (HP.out wc w4 A4 c4 m4)
  clear m4 HC3 HP hwc hG
  go_wp2_with fail
  refine HP4.out.mono ?_
  rintro e w5 ⟨A3, q3, c3, p, rfl, hb, hpk⟩
  have hp : p = ownR L := hpk.is
  have hq : (ownR L).length = q3 := by rw [← hp]; exact hb.1
  have hq2 : q3 ≤ 316 := by
    have := hpk.2.1
    rw [hp, hq, List.length_append, HnA.out, HnB.out] at this
    omega
  rw [hp] at hb
  have Hpk : Hid (PackAt (ownA L ++ ownB L) (ownA L ++ ownB L).length (ownR L)) := Lib.hid (by rw [← hp]; exact hpk)
  have HB := Lib.hid hb
  have Hq := Lib.hid hq
  have HO5 : Hid (Only (fun _ => False) wc w5) := Lib.hid (M4.out.2.1.trans hb.2.2.1)
  have HB3 : Hid (∀ j, Lies A3 j → w.heap.size ≤ j) := Lib.hid fun j hj => Nat.le_trans (HOab.out.trans (HOc.out.trans M4.out.2.1)).size (hb.2.2.2 j hj)
  have Hc4 : Hid (wc.heap.size ≤ w4.heap.size) := Lib.hid M4.out.2.1.size
  have HK5 := Lib.hid (HK.out w5 A3 q3 c3 hb.see hq hq2)
  have HF5 := Lib.hid (fun wx C hi => HF.out wx C hi (by rw [hq]; exact hq2))
  clear hb hpk hp hq HP4 HK HF M4
  go_wp2_with fail
  refine HK5.out.mono ?_
  rintro e w6 ⟨rfl, o6⟩
  have HO6 : Hid (Only (fun _ => False) wc w6) := Lib.hid (HO5.out.trans o6)
  have HB6 := Lib.hid (HB.out.new o6)
  clear o6 HB HO5 HK5
  obtain ⟨ks, hks⟩ : ∃ ks, ints (countF (ownR L)) = ks := ⟨_, rfl⟩
  have hkl : ks.length = 19 := by rw [← hks, ints_length, countF_len]
  have hk1 : ∀ v ∈ ks, v.oneCell' = true := by rw [← hks]; exact ints_one _
  rw [hks] at HF5 ⊢
  have HKl := Lib.hid hkl
  have HK1 := Lib.hid hk1
  clear hks hkl hk1
  go_wp2_with ((with_reducible show wpList _ _ _ (Oper.mk _ (Op.store _ _ _) _ _ _ _ :: _) _ _); refine wpList_store_is rfl 74 (.tmp 7) (.tmp 25) rfl w6.heap.size ks rfl rfl 74 _ (Is.new w6 74 (List.replicate 19 (.int .i64 0))) (by rw [HKl.out]; exact info34) (by rw [HKl.out]; rfl) HK1.out ?_; intro w7 hi7 ho7; have HI7 := Lib.hid hi7; have HO7 : Hid (Only (fun _ => False) w6 w7) := Lib.hid (((Only.refl _ w6).alloc _).andThen ho7 fun j e => .inr (by omega)); clear hi7 ho7)
  refine (HF5.out w7 _ HI7.out).mono ?_
  rintro e w8 ⟨g4, rfl, m8⟩
  have hoc8 : Only (fun _ => False) wc w8 := HO6.out.trans (HO7.out.trans m8.2.1)
  have hob8 : Only (fun _ => False) wb w8 := HOc.out.trans hoc8
  have i8 : Is w8 R 56 [.slice none 0 0, .slice none 0 0, .slice none 0 0, .slice none 0 0] := HIb.out.only hob8 fun f => f
  have hw8 : Only (fun _ => False) w w8 := HOab.out.trans hob8
  have hRl := i8.lt
  have FIN : Hid (LnsP w L (.returned (lnsV L g1 g2 A3 q3 c3 g4)) ((((w8.setCell ⟨R, 0, none⟩ (.slice (some ⟨g1, 0, none⟩) nA 286)).setCell ⟨R, 1, none⟩ (.slice (some ⟨g2, 0, none⟩) nB 30)).setCell ⟨R, 2, none⟩ (.slice A3 q3 c3)).setCell ⟨R, 3, none⟩ (.slice (some ⟨g4, 0, none⟩) 19 19))) := Lib.hid (by
    have ow : Only (· = R) w8 ((((w8.setCell ⟨R, 0, none⟩ (.slice (some ⟨g1, 0, none⟩) nA 286)).setCell ⟨R, 1, none⟩ (.slice (some ⟨g2, 0, none⟩) nB 30)).setCell ⟨R, 2, none⟩ (.slice A3 q3 c3)).setCell ⟨R, 3, none⟩ (.slice (some ⟨g4, 0, none⟩) 19 19)) := ((Only.one w8 R 0 _).trans (Only.one _ R 1 _)).trans ((Only.one _ R 2 _).trans (Only.one _ R 3 _))
    have ho : Only (fun _ => False) w ((((w8.setCell ⟨R, 0, none⟩ (.slice (some ⟨g1, 0, none⟩) nA 286)).setCell ⟨R, 1, none⟩ (.slice (some ⟨g2, 0, none⟩) nB 30)).setCell ⟨R, 2, none⟩ (.slice A3 q3 c3)).setCell ⟨R, 3, none⟩ (.slice (some ⟨g4, 0, none⟩) 19 19)) := hw8.andThen ow fun j e => .inr (by have := HRb.out; omega)
    have hbR : wb.heap.size = R + 1 := by rw [← hwb, ← hR]; simp
    have far : ∀ {A : Option Addr} {vs : List Value} (lo : Nat), R < lo → See w8 w8.heap.size A vs → (∀ j, Lies A j → lo ≤ j) → See ((((w8.setCell ⟨R, 0, none⟩ (.slice (some ⟨g1, 0, none⟩) nA 286)).setCell ⟨R, 1, none⟩ (.slice (some ⟨g2, 0, none⟩) nB 30)).setCell ⟨R, 2, none⟩ (.slice A3 q3 c3)).setCell ⟨R, 3, none⟩ (.slice (some ⟨g4, 0, none⟩) 19 19)) _ A vs := fun lo hlo hs hl => (hs.apart hl ow fun j h1 _ e => by omega).more ow.size
    have one : ∀ (g lo : Nat), lo ≤ g → ∀ j, Lies (some ⟨g, 0, none⟩) j → lo ≤ j := fun g lo h j ⟨ad, e, e2⟩ => by obtain rfl := Option.some.inj e; exact e2 ▸ h
    have zc := hoc8.size
    have zb := HOc.out.size
    have zab := HOab.out.size
    have z8 := (HO6.out.trans HO7.out).size
    have l1 : R < g1 := Hr1.out
    have l2 : R < g2 := Hr2.out
    have l4 : wc.heap.size ≤ g4 := Nat.le_trans z8 (m8.2.2 g4 ⟨_, rfl, rfl⟩)
    refine ⟨g1, g2, A3, q3, c3, g4, rfl, ⟨?_, ?_, ?_, ?_, Hg1.out, Hg2.out, HB3.out, by omega, Hq.out, hq2, Hpk.out⟩, ho⟩
    · exact far g1 l1 ((HSa.out.new hoc8).more hoc8.size) (one g1 g1 (Nat.le_refl _))
    · exact far g2 l2 ((HSb.out.new hoc8).more hoc8.size) (one g2 g2 (Nat.le_refl _))
    · have hb8 := HB6.out.new (HO7.out.trans m8.2.1)
      exact far wc.heap.size (by omega) hb8.see fun j hj => Nat.le_trans Hc4.out (hb8.2.2.2 j hj)
    · exact far wc.heap.size (by omega) m8.see (one g4 _ l4))
  have g0 := i8.cell 0 rfl
  have g1' := i8.cell 1 rfl
  have g2' := i8.cell 2 rfl
  have g3' := i8.cell 3 rfl
  have z0 := i8.frozen 0
  have z1 := i8.frozen 1
  have z2 := i8.frozen 2
  have z3 := i8.frozen 3
  have HF3 : Hid (Is ((((w8.setCell ⟨R, 0, none⟩ (.slice (some ⟨g1, 0, none⟩) nA 286)).setCell ⟨R, 1, none⟩ (.slice (some ⟨g2, 0, none⟩) nB 30)).setCell ⟨R, 2, none⟩ (.slice A3 q3 c3)).setCell ⟨R, 3, none⟩ (.slice (some ⟨g4, 0, none⟩) 19 19)) R 56 [.slice (some ⟨g1, 0, none⟩) nA 286, .slice (some ⟨g2, 0, none⟩) nB 30, .slice A3 q3 c3, .slice (some ⟨g4, 0, none⟩) 19 19]) := Lib.hid ((((i8.set 0 _).set 1 _).set 2 _).set 3 _)
  unfold lnsV at FIN
  rw [HnA.out, HnB.out] at FIN
  clear i8 hoc8 hob8 m8 hw8 hRl HF5 HI7 HO7 HB6 HO6 HSa HSb HOc Hg1 Hg2 HB3 Hq HKl HK1
  go_wp2
  refine bodyPost_ret (results_cell_row rfl _ _ R 56 _ (0, 0) _ rfl HF3.out Try.underlying56 rfl (by kernel_rfl)) rfl ?_
  exact FIN.out
end Go.Proofs.Ytjlkjebmilfgoaa
