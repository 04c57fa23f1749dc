/- Layer 11, the program: how often each symbol comes among tokens. -/
import Derived.Test.YtjlkjebmilfgoaaKTok
import Derived.Test.YtjlkjebmilfgoaaKOT
import Derived.Test.YtjlkjebmilfgoaaRTree
/- Layer 11, the program: how often each symbol comes among tokens. -/
namespace Go.Proofs.Ytjlkjebmilfgoaa
open Go.RowKit

/-- A number raised. -/
def up (l : List Nat) (i x : Nat) : List Nat := l.set i (ln l i + x)
theorem up_length (l : List Nat) (i x : Nat) : (up l i x).length = l.length := List.length_set
theorem ln_up (l : List Nat) (i x j : Nat) (hi : i < l.length) : ln (up l i x) j = ln l j + if j = i then x else 0 := by
  unfold up ln
  rw [List.getD_eq_getElem?_getD, List.getElem?_set]
  by_cases h : i = j
  · subst h
    rw [if_pos rfl, if_pos hi, if_pos rfl]
    rfl
  · rw [if_neg h, if_neg (by omega), Nat.add_zero, List.getD_eq_getElem?_getD]
/-- A token counted: 286 symbols, 30 distances, the bits behind them. -/
def talT (l : List Nat) (t : Tk) : List Nat :=
  if t.n = 0 then up l t.b.toNat 1 else up (up (up l (lenT t.n).1 1) (286 + (distT t.k).1) 1) 316 ((lenT t.n).2.1 + (distT t.k).2.1)
theorem talT_length (l : List Nat) (t : Tk) : (talT l t).length = l.length := by
  unfold talT
  split
  · exact up_length _ _ _
  · rw [up_length, up_length, up_length]
def tal0 : List Nat := List.replicate 317 0
def talTo (ts : List Tk) : List Nat := ts.foldl talT tal0
/-- How often each symbol comes, the end too. -/
def talF (ts : List Tk) : List Nat := up (talTo ts) 256 1
theorem tal_fold (ts : List Tk) : ∀ l : List Nat, (ts.foldl talT l).length = l.length := by
  induction ts with
  | nil => intro l; rfl
  | cons t r ih => intro l; rw [List.foldl_cons, ih, talT_length]
theorem talTo_length (ts : List Tk) : (talTo ts).length = 317 := by unfold talTo; rw [tal_fold, tal0, List.length_replicate]
theorem talF_length (ts : List Tk) : (talF ts).length = 317 := by unfold talF; rw [up_length, talTo_length]
theorem talTo_next (ts : List Tk) (k : Nat) (t : Tk) (h : ts[k]? = some t) : talTo (ts.take (k + 1)) = talT (talTo (ts.take k)) t := by
  unfold talTo
  rw [List.take_add_one, h, List.foldl_append]
  rfl
theorem talT_le (l : List Nat) (t : Tk) (hm : mayB t = true) (hl : l.length = 317) (m : Nat) (h : ∀ i, ln l i ≤ m) : ∀ i, ln (talT l t) i ≤ m + 20 := by
  intro i
  unfold talT
  split
  · rw [ln_up _ _ _ _ (by have := t.b.toNat_lt; omega)]
    have := h i
    split <;> omega
  · rename_i hn
    obtain ⟨h1, h2, h3, h4⟩ := may_far t hm hn
    obtain ⟨_, q1, q2, q3, _⟩ := lenT_is t.n h1 h2
    obtain ⟨_, r1, r2, _⟩ := distT_is t.k h3 h4
    rw [ln_up _ _ _ _ (by rw [up_length, up_length]; omega), ln_up _ _ _ _ (by rw [up_length]; omega), ln_up _ _ _ _ (by omega)]
    have := h i
    split <;> split <;> split <;> omega
theorem talTo_le (ts : List Tk) (hm : ∀ t ∈ ts, mayB t = true) : ∀ i, ln (talTo ts) i ≤ 20 * ts.length := by
  induction h : ts.length generalizing ts with
  | zero =>
    obtain rfl := List.eq_nil_of_length_eq_zero h
    intro i
    show ln tal0 i ≤ _
    unfold ln tal0
    rw [List.getD_eq_getElem?_getD, List.getElem?_replicate]
    split <;> simp
  | succ n ih =>
    obtain ⟨t, ht⟩ : ∃ t, ts[n]? = some t := ⟨ts[n]'(by omega), by simp [h]⟩
    have e := talTo_next ts n t ht
    rw [List.take_of_length_le (by omega)] at e
    rw [e]
    intro i
    have h2 := talT_le (talTo (ts.take n)) t (hm t (List.mem_of_getElem? ht)) (talTo_length _) (20 * n) (by
      have := ih (ts.take n) (fun x hx => hm x (List.mem_of_mem_take hx)) (by simp; omega)
      exact this) i
    omega

theorem zeroTal : Try.zeroCells51 = (ints tal0).toArray := by kernel_rfl
theorem infoTal : (Try.prog.info? 51).map (·.size) = some 317 := by kernel_rfl

theorem Is.up {w : World} {S i x : Nat} {T : TypeId} {l : List Nat} (h : Is w S T (ints l)) (hx : ln l i = x) (z : Nat) (v : Int) (hv : v = ((x + z : Nat) : Int)) : Is (w.setCell ⟨S, i, none⟩ (.int .i64 v)) S T (ints (up l i z)) := by
  have := h.set i (.int .i64 v)
  rw [hv, ints_set, ← hx] at this
  rw [hv, ← hx]
  exact this
def AddP (w : World) (S : Nat) (l : List Nat) (e : Ending) (w' : World) : Prop := e = .returned (.tuple #[]) ∧ Is w' S 51 (ints l) ∧ Only (fun j => j = S) w w'
set_option maxRecDepth 20000 in
set_option maxHeartbeats 4000000 in
theorem addMatch (S : Nat) (l : List Nat) (t : Tk) (w : World) (h : Is w S 51 (ints l)) (hl : l.length = 317) (hle : ∀ i, ln l i ≤ 1000000) (hm : mayB t = true) (hn : ¬ t.n = 0) :
    Calls Try.prog 31 #[.pointer (some ⟨S, 0, none⟩), tkV t] w (AddP w S (talT l t)) := by
  obtain ⟨h1, h2, h3, h4⟩ := may_far t hm hn
  have htb : talT l t = up (up (up l (lenT t.n).1 1) (286 + (distT t.k).1) 1) 316 ((lenT t.n).2.1 + (distT t.k).2.1) := if_neg hn
  obtain ⟨l1, l2, l3, l4, l5⟩ := lenT_is t.n h1 h2
  obtain ⟨d1, d2, d3, d4⟩ := distT_is t.k h3 h4
  obtain ⟨bb, tn, tk⟩ := t
  simp only at h1 h2 h3 h4 htb l1 l2 l3 l4 l5 d1 d2 d3 d4
  rw [htb]
  generalize lenT tn = L at l1 l2 l3 l4 l5 ⊢
  generalize distT tk = D at d1 d2 d3 d4 ⊢
  obtain ⟨y, v, m⟩ := L
  obtain ⟨d, v2, m2⟩ := D
  simp only at l1 l2 l3 l4 l5 d1 d2 d3 d4 ⊢
  obtain ⟨by_, hby⟩ : ∃ x, bb.toNat = x := ⟨_, rfl⟩
  unfold tkV
  rw [hby]
  obtain ⟨wa, hwa⟩ : ∃ wa, w.alloc (.cells #[.int .u8 by_, .int .i64 tn, .int .i64 tk] 63) = wa := ⟨_, rfl⟩
  have hoa : Only (fun _ => False) w wa := by rw [← hwa]; exact (Only.refl _ w).alloc _
  obtain ⟨K, hK⟩ : ∃ K, w.heap.size = K := ⟨_, rfl⟩
  have hIa : Is wa K 63 [.int .u8 by_, .int .i64 tn, .int .i64 tk] := by rw [← hwa, ← hK]; exact Is.new w _ _
  have hSK : S ≠ K := by have := h.lt; omega
  have hS : Is wa S 51 (ints l) := h.only hoa fun f => f
  have ca1 := hIa.cell 1 rfl
  have HL := Lib.hid (fun wx => length tn y v m true wx l1)
  have HD := Lib.hid (fun wx => distance tk d v2 m2 true wx d1)
  have HIa := Lib.hid hIa
  have HS := Lib.hid hS
  have HOA := Lib.hid hoa
  have HSK := Lib.hid hSK
  have HLE := Lib.hid hle
  have HLn := Lib.hid hl
  clear h hoa hIa hS hSK hle hl l1 d1 htb hm
  go_enter Try.func31, Try.ntmps31
  go_wp2_with fail
  refine (HL.out wa).mono ?_
  rintro e w1 ⟨rfl, o1⟩
  have HS1 : Hid (Is w1 S 51 (ints l)) := Lib.hid (HS.out.only o1 fun f => f)
  have HI1 : Hid (Is w1 K 63 [.int .u8 by_, .int .i64 tn, .int .i64 tk]) := Lib.hid (HIa.out.only o1 fun f => f)
  have HO1 : Hid (Only (fun _ => False) w w1) := Lib.hid (HOA.out.trans o1)
  clear o1 HL HS HIa HOA ca1
  go_upto_region 2 with fail
  have c1 := HS1.out.cell y (ints_at l y (by rw [HLn.out]; omega))
  have f1 := HS1.out.frozen y
  have hy := HLE.out y
  obtain ⟨x, hx⟩ : ∃ x, ln l y = x := ⟨_, rfl⟩
  rw [hx] at c1 hy
  have HX := Lib.hid hx
  have hy286 : (y : Int) < 286 := by omega
  clear hx
  go_region
  have ex : (x : Int) + 1 = ((x + 1 : Nat) : Int) := by omega
  have i2 : Is ((w1.setCell ⟨S, y, none⟩ (.int .i64 ((x : Int) + 1))).drew) S 51 (ints (up l y 1)) := HS1.out.up HX.out 1 _ ex
  have o2 : Only (fun j => j = S) w1 ((w1.setCell ⟨S, y, none⟩ (.int .i64 ((x : Int) + 1))).drew) := (Only.one w1 S y _).drew
  obtain ⟨w2, hw2⟩ : ∃ w2, (w1.setCell ⟨S, y, none⟩ (.int .i64 ((x : Int) + 1))).drew = w2 := ⟨_, rfl⟩
  rw [hw2] at i2 o2 ⊢
  have HS2 := Lib.hid i2
  have HO2 : Hid (Only (fun j => j = S) w w2) := Lib.hid ((HO1.out.mono fun _ f => f.elim).trans o2)
  have HI2 : Hid (Is w2 K 63 [.int .u8 by_, .int .i64 tn, .int .i64 tk]) := Lib.hid (HI1.out.only o2 fun e => HSK.out e.symm)
  have HLE2 : Hid (∀ i, ln (up l y 1) i ≤ 1000001) := Lib.hid fun i => by
    rw [ln_up _ _ _ _ (by rw [HLn.out]; omega)]
    have := HLE.out i
    split <;> omega
  have HLn2 : Hid ((up l y 1).length = 317) := Lib.hid (by rw [up_length, HLn.out])
  clear i2 o2 hw2 c1 f1 ex HS1 HI1 HO1 HLE HLn HX hy
  obtain ⟨la, hla⟩ : ∃ la, up l y 1 = la := ⟨_, rfl⟩
  rw [hla] at HS2 HLE2 HLn2
  have HQ1 := Lib.hid hla
  clear hla
  have c2 := HI2.out.cell 2 rfl
  go_wp2_with fail
  refine (HD.out w2).mono ?_
  rintro e w3 ⟨rfl, o3⟩
  have HS3 : Hid (Is w3 S 51 (ints la)) := Lib.hid (HS2.out.only o3 fun f => f)
  have HO3 : Hid (Only (fun j => j = S) w w3) := Lib.hid (HO2.out.trans (o3.mono fun _ f => f.elim))
  clear o3 HD HS2 HO2 HI2 c2
  go_upto_region 4 with fail
  obtain ⟨p, hp⟩ : ∃ p, 286 + d = p := ⟨_, rfl⟩
  have HPD := Lib.hid hp
  have c1 := HS3.out.cell p (ints_at la p (by rw [HLn2.out]; omega))
  have f1 := HS3.out.frozen p
  have hy := HLE2.out p
  obtain ⟨x, hx⟩ : ∃ x, ln la p = x := ⟨_, rfl⟩
  rw [hx] at c1 hy
  have HX := Lib.hid hx
  have hd30 : (d : Int) < 30 := by omega
  have HP := Lib.hid (show p < 316 by omega)
  clear hx
  go_region
  have ex : (x : Int) + 1 = ((x + 1 : Nat) : Int) := by omega
  have i2 : Is ((w3.setCell ⟨S, p, none⟩ (.int .i64 ((x : Int) + 1))).drew) S 51 (ints (up la p 1)) := HS3.out.up HX.out 1 _ ex
  have o2 : Only (fun j => j = S) w3 ((w3.setCell ⟨S, p, none⟩ (.int .i64 ((x : Int) + 1))).drew) := (Only.one w3 S p _).drew
  obtain ⟨w4, hw2⟩ : ∃ w4, (w3.setCell ⟨S, p, none⟩ (.int .i64 ((x : Int) + 1))).drew = w4 := ⟨_, rfl⟩
  rw [hw2] at i2 o2 ⊢
  have HS4 := Lib.hid i2
  have HO4 : Hid (Only (fun j => j = S) w w4) := Lib.hid (HO3.out.trans o2)
  have HLE4 : Hid (∀ i, ln (up la p 1) i ≤ 1000002) := Lib.hid fun i => by
    rw [ln_up _ _ _ _ (by rw [HLn2.out]; have := HP.out; omega)]
    have := HLE2.out i
    split <;> omega
  have HLn4 : Hid ((up la p 1).length = 317) := Lib.hid (by rw [up_length, HLn2.out])
  clear i2 o2 hw2 c1 f1 ex HS3 HO3 HLE2 HLn2 HX hy hp HP
  obtain ⟨lc, hlc⟩ : ∃ lc, up la p 1 = lc := ⟨_, rfl⟩
  rw [hlc] at HS4 HLE4 HLn4
  have HQ2 := Lib.hid hlc
  clear hlc
  have c1 := HS4.out.cell 316 (ints_at lc 316 (by rw [HLn4.out]; omega))
  have f1 := HS4.out.frozen 316
  have hy := HLE4.out 316
  obtain ⟨x, hx⟩ : ∃ x, ln lc 316 = x := ⟨_, rfl⟩
  rw [hx] at c1 hy
  obtain ⟨z, hz⟩ : ∃ z, x + (v + v2) = z := ⟨_, rfl⟩
  have ez : (x : Int) + ((v : Int) + (v2 : Int)) = (z : Int) := by omega
  have i5 : Is (w4.setCell ⟨S, 316, none⟩ (.int .i64 (z : Nat))) S 51 (ints (up lc 316 (v + v2))) := HS4.out.up hx (v + v2) _ (by rw [hz])
  have HI5 := Lib.hid i5
  have HO5 : Hid (Only (fun j => j = S) w (w4.setCell ⟨S, 316, none⟩ (.int .i64 (z : Nat)))) := Lib.hid (HO4.out.trans (Only.one w4 S 316 _))
  have hzb : z ≤ 1000030 := by omega
  clear hx hz i5
  go_wp2
  go_end0
  refine ⟨rfl, ?_, HO5.out⟩
  rw [HQ1.out, HPD.out, HQ2.out]
  exact HI5.out
end Go.Proofs.Ytjlkjebmilfgoaa

/- Layer 11, the program: how often each symbol comes among tokens, the end too. -/
namespace Go.Proofs.Ytjlkjebmilfgoaa
open Go.RowKit

/-- A whole struct loaded from a block that is known. -/
theorem wpList_load_st {P : Program} {ops : Array Oper} {rest : List Oper} {o : Oper} {a : Act} {w : World} {Q : Exit → Act → World → Prop} (hgd : o.guard = none) (ty : TypeId) (x : Operand) (ho : o.op = .load ty x)
    (g : Nat) (hx : a.eval x = .pointer (some ⟨g, 0, none⟩)) (t : TypeId) (cells : List Value) (hg : Is w g t cells) {d : TypeDesc} (hu : P.underlying ty = some d) (hd : (match d with | .struct _ | .array _ _ => true | _ => false) = true)
    (hi : (P.info? ty).map (·.size) = some cells.length) (h : wpList P ops Q rest (a.put o.dst (.agg cells.toArray)) w) : wpList P ops Q (o :: rest) a w :=
  wpList_load_row hgd ty x ho g hx t cells.toArray (0, 0) _ hg hu hd (by simpa using hi) h
def TalP (w : World) (l : List Nat) (e : Ending) (w' : World) : Prop := e = .returned (.agg (ints l).toArray) ∧ Only (fun _ => False) w w'
/-- Where counting stands. -/
def TalAt (w : World) (H : Nat) (ts : List Tk) (j : Nat) (wx : World) : Prop := Is wx (H + 1) 51 (ints (talTo (ts.take j))) ∧ Is wx H 51 (ints tal0) ∧ Only (fun _ => False) w wx
theorem TalAt.new {w wx wy : World} {H j : Nat} {ts : List Tk} (h : TalAt w H ts j wx) (k : Only (fun _ => False) wx wy) : TalAt w H ts j wy := ⟨h.1.only k fun f => f, h.2.1.only k fun f => f, h.2.2.trans k⟩
set_option maxRecDepth 20000 in
set_option maxHeartbeats 4000000 in
theorem tallyOf (A : Option Addr) (n c B : Nat) (ts : List Tk) (w : World) (h : See w B A (tks ts)) (hn : ts.length = n) (hb : n ≤ 30000) (hm : allB ts = true) : Calls Try.prog 17 #[.slice A n c] w (TalP w (talF ts)) := by
  have hmay : ∀ t ∈ ts, mayB t = true := fun t ht => List.all_eq_true.1 hm t ht
  have hst : TalAt w w.heap.size ts 0 ((w.alloc (.cells Try.zeroCells51 51)).alloc (.cells Try.zeroCells51 51)) := by
    rw [zeroTal]
    exact ⟨Is.new2 w _ 51 _, (Is.new w 51 _).alloc _, ((Only.refl _ w).alloc _).alloc _⟩
  have HS := Lib.hid h
  have HN := Lib.hid hn
  have HM := Lib.hid hmay
  have HLe : Hid (∀ k i, ln (talTo (ts.take k)) i ≤ 600000) := Lib.hid fun k i => by
    have := talTo_le (ts.take k) (fun x hx => hmay x (List.mem_of_mem_take hx)) i
    have h2 : (ts.take k).length ≤ 30000 := by rw [List.length_take]; omega
    omega
  clear h hn hm hmay
  go_enter Try.func17, Try.ntmps17
  go_wp2_with fail
  obtain ⟨H, hH⟩ : ∃ H, w.heap.size = H := ⟨_, rfl⟩
  obtain ⟨wz, hwz⟩ : ∃ wz, (w.alloc (.cells Try.zeroCells51 51)).alloc (.cells Try.zeroCells51 51) = wz := ⟨_, rfl⟩
  rw [hH, hwz] at hst
  have HST := Lib.hid hst
  clear hst
  have HH := Lib.hid hH
  try rw [hwz]
  try rw [hH]
  clear hH hwz
  go_loopg [8] n (fun gk i wx => ∃ k : Nat, i = .int .i64 k ∧ k + gk ≤ n ∧ n ≤ k + gk ∧ Hid (TalAt w H ts k wx))
  case atStart => exact ⟨0, rfl, by omega, by omega, HST⟩
  case round =>
    clear HST
    obtain ⟨j, rfl, hg1, hg2, HE⟩ := hrel
    by_cases hlt : j < n
    · obtain ⟨t, ht⟩ : ∃ t, ts[j]? = some t := ⟨ts[j]'(by rw [HN.out]; exact hlt), by simp [HN.out, hlt]⟩
      obtain ⟨b0, off, rfl, _, c0, c1, c2⟩ := (HS.out.new HE.out.2.2).token j t ht
      have HT := Lib.hid (talTo_next ts j t ht)
      have hmt := HM.out t (List.mem_of_getElem? ht)
      have HAM : Hid (∀ w1, TalAt w H ts j w1 → ¬ t.n = 0 → Calls Try.prog 31 #[.pointer (some ⟨H + 1, 0, none⟩), tkV t] w1 (AddP w1 (H + 1) (talTo (ts.take (j + 1))))) := Lib.hid fun w1 h1 hn0 => by
        rw [HT.out]
        exact addMatch (H + 1) _ t w1 h1.1 (talTo_length _) (fun i => Nat.le_trans (HLe.out j i) (by decide)) hmt hn0
      obtain ⟨tb, tn, tk⟩ := t
      unfold tkV at HAM
      simp only at c0 c1 c2
      obtain ⟨y, hy⟩ : ∃ y, tb.toNat = y := ⟨_, rfl⟩
      have hy256 : y < 256 := by rw [← hy]; exact tb.toNat_lt
      rw [hy] at c0 HAM
      obtain ⟨wa, hwa⟩ : ∃ wa, wr.alloc (.cells #[.int .u8 y, .int .i64 tn, .int .i64 tk] 63) = wa := ⟨_, rfl⟩
      obtain ⟨g, hg⟩ : ∃ g, wr.heap.size = g := ⟨_, rfl⟩
      have hIa : Is wa g 63 [.int .u8 y, .int .i64 tn, .int .i64 tk] := by rw [← hwa, ← hg]; exact Is.new wr 63 _
      have HEa : Hid (TalAt w H ts j wa) := Lib.hid (HE.out.new (hwa ▸ (Only.refl _ wr).alloc _))
      have d0 := hIa.cell 0 rfl
      have d1 := hIa.cell 1 rfl
      have d2 := hIa.cell 2 rfl
      clear hIa ht
      by_cases hn0 : tn = 0
      · subst hn0
        have ht2 : talTo (ts.take (j + 1)) = up (talTo (ts.take j)) y 1 := by rw [HT.out, talT, if_pos rfl, hy]
        have k1 := HEa.out.1.cell y (ints_at _ y (by rw [talTo_length]; omega))
        have k2 := HEa.out.1.frozen y
        have hyl := HLe.out j y
        obtain ⟨x, hx⟩ : ∃ x, ln (talTo (ts.take j)) y = x := ⟨_, rfl⟩
        rw [hx] at k1 hyl
        have HN2 : Hid (TalAt w H ts (j + 1) (wa.setCell ⟨H + 1, y, none⟩ (.int .i64 ((x + 1 : Nat) : Int)))) := Lib.hid (by
          refine ⟨?_, HEa.out.2.1.far (p := ⟨H + 1, y, none⟩) (by simp) _, HEa.out.2.2.set (p := ⟨H + 1, y, none⟩) (.inr (by have := HH.out; simp; omega)) _⟩
          rw [ht2]
          exact HEa.out.1.up hx 1 _ rfl)
        have ex : (x : Int) + 1 = ((x + 1 : Nat) : Int) := by omega
        obtain ⟨x1, hx1⟩ : ∃ x1, x + 1 = x1 := ⟨_, rfl⟩
        rw [hx1] at ex HN2
        clear HAM HT hx hx1 ht2 HE HEa hy
        go_wp2_with fail
        go_roundg (gk - 1)
        case measure => omega
        case rel => exact ⟨j + 1, by go_num, by omega, by omega, HN2⟩
      · have HA1 := Lib.hid (HAM.out wa HEa.out hn0)
        clear HAM HT hy
        go_wp2_with fail
        refine HA1.out.mono ?_
        rintro e w2 ⟨rfl, i2, o2⟩
        have HN2 : Hid (TalAt w H ts (j + 1) w2) := Lib.hid ⟨i2, HEa.out.2.1.only o2 (by omega), HEa.out.2.2.andThen o2 fun q e => .inr (by have := HH.out; omega)⟩
        clear i2 o2 HA1
        go_wp2_with fail
        go_roundg (gk - 1)
        case measure => omega
        case rel => exact ⟨j + 1, by go_num, by omega, by omega, HN2⟩
    · have ht : ts.take j = ts := List.take_of_length_le (by rw [HN.out]; omega)
      obtain ⟨h1, h2, h3⟩ := HE.out
      have hl2 := HLe.out j 256
      rw [ht] at h1 hl2
      have k1 := h1.cell 256 (ints_at _ 256 (by rw [talTo_length]; decide))
      have k2 := h1.frozen 256
      obtain ⟨x, hx⟩ : ∃ x, ln (talTo ts) 256 = x := ⟨_, rfl⟩
      rw [hx] at k1 hl2
      obtain ⟨x1, hx1⟩ : ∃ x1, x + 1 = x1 := ⟨_, rfl⟩
      have ex : (x : Int) + 1 = (x1 : Int) := by omega
      have H1 : Hid (Is (wr.setCell ⟨H + 1, 256, none⟩ (.int .i64 (x1 : Nat))) (H + 1) 51 (ints (talF ts))) := Lib.hid (h1.up hx 1 _ (by rw [hx1]))
      have H2 : Hid (Is (wr.setCell ⟨H + 1, 256, none⟩ (.int .i64 (x1 : Nat))) H 51 (ints tal0)) := Lib.hid (h2.far (p := ⟨H + 1, 256, none⟩) (by simp) _)
      have H3 : Hid (Only (fun _ => False) w (wr.setCell ⟨H + 1, 256, none⟩ (.int .i64 (x1 : Nat)))) := Lib.hid (h3.set (p := ⟨H + 1, 256, none⟩) (.inr (by have := HH.out; simp; omega)) _)
      have hlen : (ints (talF ts)).length = 317 := by rw [ints_length]; exact talF_length ts
      have HLn := Lib.hid hlen
      clear h1 h2 h3 ht hlen HE hx hx1 HLe HM HS
      go_upto_region 10 with fail
      go_wp2_with (first
        | ((with_reducible show wpList _ _ _ (Oper.mk _ (Op.load _ _) _ _ _ _ :: _) _ _); refine wpList_load_st rfl 51 (.tmp 3) rfl (H + 1) rfl 51 _ H1.out Try.underlying51 rfl (by rw [HLn.out]; exact infoTal) ?_)
        | ((with_reducible show wpList _ _ _ (Oper.mk _ (Op.store _ _ _) _ _ _ _ :: _) _ _); refine wpList_store_row rfl 51 (.tmp 2) (.tmp 32) rfl H _ rfl rfl 51 _ H2.out (by rw [List.size_toArray, HLn.out]; exact infoTal) (by rw [List.size_toArray, List.size_toArray, HLn.out, ints_length, tal0, List.length_replicate]) (all_oneCell_toArray (ints_one _)) ?_))
      refine bodyPost_ret (results_cell_row rfl _ _ H 51 _ (0, 0) _ rfl (H2.out.row _) Try.underlying51 rfl (by rw [List.size_toArray, HLn.out]; exact infoTal)) rfl ?_
      exact ⟨rfl, H3.out.row (.inr (by have := HH.out; omega)) _⟩
end Go.Proofs.Ytjlkjebmilfgoaa
