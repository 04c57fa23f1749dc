/- Layer 13, the document: parts of a text, their order, parents, codes, paths that may be. -/
import Derived.Test.YtaeaomlhbdbbfaaGreatDoorRtM
import Derived.Laws.Cover1
/- Layer 13, the document: parts of a text. -/
namespace Go.Proofs.YtaeaomlhbdbbfaaGreatDoor
open Go.RowKit

theorem Src.oneStr {P : Program} {t e : TypeId} (hk : P.underlying t = some (.slice e)) (w : World) (s : ByteArray) (c : Nat) (t' : TypeId) : Src P 1 t (.slice (some ⟨w.heap.size, 0, none⟩) 1 c) 1 [.string s] (w.alloc (.cells #[.string s] t')) :=
  Src.ofSlice _ hk _ 1 c _ rfl (cell_one_new w _ t') (by simp; rfl)
theorem infoStr : (Tryz.prog.info? 9).map (fun i => (i.zero, i.size, i.bytes)) = some (some (.string ByteArray.empty), 1, 16) := by kernel_rfl
theorem zeroStr : (Value.string ByteArray.empty).cells.size = 1 := by simp [Value.cells]
/-- A row of texts of the call's own, laid since w. -/
def SMade (w : World) (A : Option Addr) (n c : Nat) (ps : List (List UInt8)) (wx : World) : Prop := Rs 9 1 wx A n c (strs ps) ∧ Only (fun _ => False) w wx ∧ ∀ j, Lies A j → w.heap.size ≤ j
theorem SMade.nil (w : World) : SMade w none 0 0 [] w := ⟨Rs.nil _ 1 w, Only.refl _ w, by rintro j ⟨ad, e, _⟩; cases e⟩
theorem SMade.append {w wx wy : World} {A A' : Option Addr} {n c n' c' : Nat} {l l' : List (List UInt8)} {o : Obj} (h : SMade w A n c l wx) (hr : Rs 9 1 wy A' n' c' (strs l')) (ho : Only (Lies A) (wx.alloc o) wy) (ha : A' = A ∨ A' = some ⟨(wx.alloc o).heap.size, 0, none⟩) : SMade w A' n' c' l' wy := by
  refine ⟨hr, (h.2.1.alloc o).andThen ho fun j hj => .inr (h.2.2 j hj), fun j hj => ?_⟩
  rcases ha with e | e
  · exact h.2.2 j (e ▸ hj)
  · obtain ⟨ad, e1, e2⟩ := hj
    rw [e] at e1
    obtain rfl := Option.some.inj e1
    rw [← e2]
    exact (h.2.1.alloc o).size
/-- What is answered: a row of texts. -/
def StrsP (w : World) (ps : List (List UInt8)) (e : Ending) (w' : World) : Prop := ∃ A c, e = .returned (.slice A ps.length c) ∧ SMade w A ps.length c ps w'
theorem byte_is (s : ByteArray) (i : Nat) (h : i < s.size) : s[i]'h = s.data.toList.getD i 0 := by
  have h2 : i < s.data.toList.length := by simpa using h
  rw [List.getD_eq_getElem?_getD, List.getElem?_eq_getElem h2]
  rfl

theorem empty_no {s : ByteArray} (h : ¬ s.data.toList = []) : s.toList.isEmpty = false := by
  rw [ByteArray.toList_eq, List.isEmpty_eq_false_iff]
  exact h
set_option maxHeartbeats 4000000 in
theorem rparts (s : ByteArray) (w : World) (hs : s.size ≤ 900000) : Calls Tryz.prog 70 #[.string s] w (StrsP w (partsF s.data.toList)) := by
  obtain ⟨n, hn⟩ : ∃ n, s.size = n := ⟨_, rfl⟩
  have HN : Hid (s.data.toList.length = n) := Lib.hid hn
  by_cases h0 : s.data.toList = []
  · have e0 : s = ByteArray.empty := by rw [← tx_self s, h0]; rfl
    unfold partsF
    rw [if_pos h0]
    subst e0
    go_enter Tryz.func70, Tryz.ntmps70
    go_wp2
    go_ret
    exact ⟨none, 0, rfl, SMade.nil w⟩
  · have e0 := empty_no h0
    have HP : Hid (partsF s.data.toList = splitF s.data.toList) := Lib.hid (if_neg h0)
    clear h0
    go_enter Tryz.func70, Tryz.ntmps70
    go_wp2_with fail
    go_loopg [3, 4, 5] (n + 1) (fun gk u v x wx => ∃ (A : Option Addr) (c f i : Nat) (done : List (List UInt8)), u = .slice A done.length c ∧ v = .int .i64 f ∧ x = .int .i64 i ∧ i + gk = n + 1 ∧ done.length ≤ i ∧ Hid (PtAt s.data.toList i f done) ∧ Hid (SMade w A done.length c done wx))
    case atStart => exact ⟨none, 0, 0, 0, [], rfl, rfl, rfl, by omega, Nat.le_refl _, Lib.hid (PtAt.start _), Lib.hid (SMade.nil w)⟩
    case round =>
      obtain ⟨A, c, f, i, done, rfl, rfl, rfl, hi, hdl, HT, HM⟩ := hrel
      obtain ⟨m, hm⟩ : ∃ m, done.length = m := ⟨_, rfl⟩
      rw [hm] at HM hdl ⊢
      by_cases hlt : i < n
      · have hle : (i : Int) ≤ (n : Int) := by omega
        have hne : ¬ (i : Int) = (n : Int) := by omega
        have hne2 : ((i : Int) == (n : Int)) = false := by rw [beq_eq_false_iff_ne]; exact hne
        obtain ⟨b, hb⟩ : ∃ b, s[i]'(by omega) = b := ⟨_, rfl⟩
        have eb : s.data.toList.getD i 0 = b := by rw [← hb, byte_is]
        by_cases h47 : b = 47
        · subst h47
          obtain ⟨hfi, hcut⟩ := HT.out.cut (by rw [HN.out]; exact hlt) eb
          have HT2 := Lib.hid hcut
          have hex : s.extract f i = tx ((s.data.toList.take i).drop f) := tx_cut s f i
          generalize (s.data.toList.take i).drop f = P at HT2 hex
          clear hcut eb
          go_wp2_with (at_builtin
                       refine wpList_append_rs rfl (.tmp 24) (.tmp 29) 73 73 9 rfl Tryz.underlying73 infoStr zeroStr A m c (strs done) [.string (tx P)] (.slice (some ⟨wr.heap.size, 0, none⟩) 1 1) (by rfl) (by rfl) (HM.out.1.alloc _) (Src.oneStr Tryz.underlying73 wr (tx P) 1 9) (by omega) (by omega) ?_
                       intro A2 c2 w2 hrow2 honly2 hlies2
                       have HM2 : Hid (SMade w A2 (m + 1) c2 (done ++ [P]) w2) := Lib.hid (HM.out.append (by rw [← strs_snoc]; exact hrow2) honly2 hlies2)
                       clear hrow2 honly2 hlies2)
          go_roundg (gk - 1)
          case measure => omega
          case rel =>
            have e : (done ++ [P]).length = m + 1 := by rw [List.length_append, hm]; rfl
            refine ⟨A2, c2, i + 1, i + 1, done ++ [P], by rw [e], by go_num, by go_num, by omega, by rw [e]; omega, HT2, ?_⟩
            rw [e]
            exact HM2
        · have HT2 := Lib.hid (HT.out.skip (by rw [HN.out]; exact hlt) (by rw [eb]; exact h47))
          have h48 : ¬ (b.toNat : Int) = 47 := fun e => h47 (UInt8.toNat_inj.1 (by show b.toNat = 47; omega))
          have h49 : ((b.toNat : Int) == 47) = false := by rw [beq_eq_false_iff_ne]; exact h48
          clear eb h47
          go_wp2_with fail
          go_roundg (gk - 1)
          case measure => omega
          case rel =>
            refine ⟨A, c, f, i + 1, done, by rw [hm], rfl, by go_num, by omega, by omega, HT2, ?_⟩
            rw [hm]
            exact HM
      · by_cases hin : i = n
        · subst hin
          have h1 := HT.out
          rw [← HN.out] at h1
          obtain ⟨hfi, hcut⟩ := h1.last
          rw [HN.out] at hfi hcut
          have HT2 := Lib.hid hcut
          have hex : s.extract f i = tx ((s.data.toList.take i).drop f) := tx_cut s f i
          generalize (s.data.toList.take i).drop f = P at HT2 hex
          clear hcut h1
          go_wp2_with (at_builtin
                       refine wpList_append_rs rfl (.tmp 24) (.tmp 29) 73 73 9 rfl Tryz.underlying73 infoStr zeroStr A m c (strs done) [.string (tx P)] (.slice (some ⟨wr.heap.size, 0, none⟩) 1 1) (by rfl) (by rfl) (HM.out.1.alloc _) (Src.oneStr Tryz.underlying73 wr (tx P) 1 9) (by omega) (by omega) ?_
                       intro A2 c2 w2 hrow2 honly2 hlies2
                       have HM2 : Hid (SMade w A2 (m + 1) c2 (done ++ [P]) w2) := Lib.hid (HM.out.append (by rw [← strs_snoc]; exact hrow2) honly2 hlies2)
                       clear hrow2 honly2 hlies2)
          go_roundg (gk - 1)
          case measure => omega
          case rel =>
            have e : (done ++ [P]).length = m + 1 := by rw [List.length_append, hm]; rfl
            refine ⟨A2, c2, i + 1, i + 1, done ++ [P], by rw [e], by go_num, by go_num, by omega, by rw [e]; omega, HT2, ?_⟩
            rw [e]
            exact HM2
        · have hin2 : i = n + 1 := by omega
          subst hin2
          have h1 := HT.out
          rw [← HN.out] at h1
          have HE := Lib.hid h1.done
          clear h1
          go_wp2
          go_ret
          rw [HP.out, ← HE.out]
          refine ⟨A, c, by rw [hm]; rfl, ?_⟩
          rw [hm]
          exact HM.out
end Go.Proofs.YtaeaomlhbdbbfaaGreatDoor

/- Layer 13, the document: parts joined, parents, names, what is under what, and the order. -/
namespace Go.Proofs.YtaeaomlhbdbbfaaGreatDoor
open Go.RowKit

theorem getD_take_snoc {α : Type} (d : α) (l : List α) (i : Nat) (h : i < l.length) : l.take (i + 1) = l.take i ++ [l.getD i d] := by
  rw [List.take_add_one, List.getD_eq_getElem?_getD, List.getElem?_eq_getElem h]
  rfl
/-- One text behind the other. -/
theorem add_tx {P : Program} (a b : List UInt8) (ha : a.length ≤ 4000000000) (hb : b.length ≤ 4000000000) : ∀ w : World, (Op.stringOp .add (tx a) (tx b)).run P w = .ok (.string (tx (a ++ b))) w := fun w => by
  rw [← tx_add]
  exact run_string_add_sum w (tx a) (tx b) (by rw [tx_size, tx_size]; omega)
theorem toList_tx (l : List UInt8) : (tx l).toList = l := tx_toList l
/-- A byte of a text. -/
theorem tx_byte (l : List UInt8) (i : Nat) (h : i < (tx l).size) : (tx l)[i]'h = l.getD i 0 := byte_is (tx l) i h

set_option maxHeartbeats 4000000 in
theorem rparent (l : List UInt8) (w : World) (hs : l.length ≤ 1000000) : Calls Tryz.prog 21 #[.string (tx l)] w fun e w' => e = .returned (.tuple #[.string (tx (parentF l).1), .bool (parentF l).2]) ∧ w = w' := by
  obtain ⟨n, hn⟩ : ∃ n, l.length = n := ⟨_, rfl⟩
  have hz : (tx l).size = n := by rw [tx_size, hn]
  have HP : Hid (∀ r, lstF l n = r → parentF l = parentOf l r) := Lib.hid fun r hr => by
    unfold parentF
    rw [hn, hr]
  have HC : Hid (∀ k, (tx l).extract 0 k = tx (l.take k)) := Lib.hid fun k => tx_cut _ 0 k
  rw [hn] at hs
  clear hn
  go_enter Tryz.func21, Tryz.ntmps21
  go_wp2_with fail
  go_loopg [4] n (fun gk i wx => i = .int .i64 ((gk : Int) - 1) ∧ gk ≤ n ∧ wx = w ∧ Hid (lstF l n = lstF l gk))
  case atStart => exact ⟨by go_num, Nat.le_refl _, rfl, Lib.hid rfl⟩
  case round =>
    obtain ⟨rfl, hgk, rfl, HL⟩ := hrel
    by_cases h0 : gk = 0
    · subst h0
      have HE := Lib.hid (HP.out none (by rw [HL.out]; rfl))
      go_wp2
      go_ret2
      rw [HE.out]
      exact ⟨rfl, rfl⟩
    · obtain ⟨k, rfl⟩ : ∃ k, gk = k + 1 := ⟨gk - 1, by omega⟩
      obtain ⟨b, hb⟩ : ∃ b, (tx l)[k]'(by omega) = b := ⟨_, rfl⟩
      have eb : l.getD k 0 = b := by rw [← hb, tx_byte]
      have ek : ((k + 1 : Nat) : Int) - 1 = (k : Int) := by omega
      by_cases h47 : b = 47
      · subst h47
        have HE := Lib.hid (HP.out (some k) (by rw [HL.out, lstF, if_pos eb]))
        have hcut := HC.out k
        clear eb HC
        go_wp2
        go_ret2
        rw [HE.out]
        exact ⟨rfl, rfl⟩
      · have h48 : ¬ (b.toNat : Int) = 47 := fun e => h47 (UInt8.toNat_inj.1 (by show b.toNat = 47; omega))
        have h49 : ((b.toNat : Int) == 47) = false := by rw [beq_eq_false_iff_ne]; exact h48
        have HL2 : Hid (lstF l n = lstF l k) := Lib.hid (by rw [HL.out, lstF, if_neg (by rw [eb]; exact h47)])
        clear eb h47
        go_wp2_with fail
        go_roundg k
        case measure => omega
        case rel => exact ⟨by go_num, by omega, rfl, HL2⟩
end Go.Proofs.YtaeaomlhbdbbfaaGreatDoor

/- Layer 13, the document: what is under what, and the order. -/
namespace Go.Proofs.YtaeaomlhbdbbfaaGreatDoor
open Go.RowKit

theorem cmp_step (a b : List (List UInt8)) (i : Nat) (ha : i < a.length) (hb : i < b.length) :
    cmpF (a.drop i) (b.drop i) = if Op.bytesLess (a.getD i []) (b.getD i []) = true then -1 else if a.getD i [] = b.getD i [] then cmpF (a.drop (i + 1)) (b.drop (i + 1)) else 1 := by
  rw [List.drop_eq_getElem_cons ha, List.drop_eq_getElem_cons hb, List.getD_eq_getElem?_getD, List.getElem?_eq_getElem ha, List.getD_eq_getElem?_getD, List.getElem?_eq_getElem hb]
  rfl
theorem cmp_end (a b : List (List UInt8)) (i : Nat) (h : ¬ (i < a.length ∧ i < b.length)) (ha : i ≤ a.length) (hb : i ≤ b.length) :
    cmpF (a.drop i) (b.drop i) = if a.length < b.length then -1 else if b.length < a.length then 1 else 0 := by
  by_cases h1 : i < a.length
  · have h2 : b.drop i = [] := List.drop_of_length_le (by omega)
    rw [h2, List.drop_eq_getElem_cons h1, cmpF, if_neg (by omega), if_pos (by omega)]
  · have h2 : a.drop i = [] := List.drop_of_length_le (by omega)
    by_cases h3 : i < b.length
    · rw [h2, List.drop_eq_getElem_cons h3, cmpF, if_pos (by omega)]
    · have h4 : b.drop i = [] := List.drop_of_length_le (by omega)
      rw [h2, h4, cmpF, if_neg (by omega), if_neg (by omega)]
set_option maxHeartbeats 8000000 in
theorem rcompare (x y : List UInt8) (w : World) (hx : x.length ≤ 800000) (hy : y.length ≤ 800000) : Calls Tryz.prog 71 #[.string (tx x), .string (tx y)] w fun e w' => e = .returned (.int .i64 (cmpF (partsF x) (partsF y))) ∧ Only (fun _ => False) w w' := by
  have H1 := Lib.hid (rparts (tx x) w (by rw [tx_size]; omega))
  have H2 := Lib.hid fun w1 => rparts (tx y) w1 (by rw [tx_size]; omega)
  rw [tx_list] at H1 H2
  have hp := parts_few x
  have hq := parts_few y
  generalize partsF x = a at H1 hp ⊢
  generalize partsF y = b at H2 hq ⊢
  obtain ⟨n, hn⟩ : ∃ n, a.length = n := ⟨_, rfl⟩
  obtain ⟨m, hm⟩ : ∃ m, b.length = m := ⟨_, rfl⟩
  have HN := Lib.hid hn
  have HM := Lib.hid hm
  have hn2 : n ≤ 800001 := by omega
  have hm2 : m ≤ 800001 := by omega
  clear hp hq hx hy
  go_enter Tryz.func71, Tryz.ntmps71
  go_wp2_with fail
  refine H1.out.mono ?_
  rintro e w1 ⟨A, c, rfl, h1⟩
  have HA := Lib.hid h1
  rw [hn] at HA ⊢
  clear h1 H1
  go_wp2_with fail
  refine (H2.out w1).mono ?_
  rintro e w2 ⟨A2, c2, rfl, h2⟩
  have HO := Lib.hid (HA.out.2.1.trans h2.2.1)
  have HSA := Lib.hid (HA.out.1.only h2.2.1 fun _ _ f => f).see
  have HSB := Lib.hid h2.1.see
  rw [hm]
  clear h2 H2 HA hn hm
  go_wp2_with fail
  go_loopg [7] (n + m) (fun gk u wx => ∃ i : Nat, u = .int .i64 i ∧ i ≤ n ∧ i ≤ m ∧ i + gk = n + m ∧ (∃ q, wx = w2.drewN q) ∧ Hid (cmpF a b = cmpF (a.drop i) (b.drop i)))
  case atStart => exact ⟨0, rfl, by omega, by omega, by omega, ⟨0, rfl⟩, Lib.hid rfl⟩
  case round =>
    obtain ⟨i, rfl, hin, him, hi, ⟨q, rfl⟩, HC⟩ := hrel
    by_cases hlt : i < n ∧ i < m
    · obtain ⟨l1, l2⟩ := hlt
      have l3 : (i : Int) < (n : Int) := by omega
      have l4 : (i : Int) < (m : Int) := by omega
      obtain ⟨b1, o1, rfl, _, d1⟩ := HSA.out i _ (strs_at a i (by rw [HN.out]; exact l1))
      obtain ⟨b2, o2, rfl, _, d2⟩ := HSB.out i _ (strs_at b i (by rw [HM.out]; exact l2))
      have HS := Lib.hid (cmp_step a b i (by rw [HN.out]; exact l1) (by rw [HM.out]; exact l2))
      generalize a.getD i [] = p at d1 HS
      generalize b.getD i [] = r at d2 HS
      have t1 := tx_toList p
      have t2 := tx_toList r
      by_cases hb1 : Op.bytesLess p r = true
      · have HE : Hid (cmpF a b = -1) := Lib.hid (by rw [HC.out, HS.out, if_pos hb1])
        clear HS HC
        go_upto_region 6 with fail
        go_quiet (fail)
        go_wp2
        go_ret
        rw [HE.out]
        exact ⟨rfl, (HO.out.drewN q).drewN nq⟩
      · have hb2 : Op.bytesLess p r = false := by simpa using hb1
        by_cases hpr : p = r
        · subst hpr
          have HE : Hid (cmpF a b = cmpF (a.drop (i + 1)) (b.drop (i + 1))) := Lib.hid (by rw [HC.out, HS.out, if_neg hb1, if_pos rfl])
          clear HS HC hb1
          go_upto_region 6 with fail
          go_quiet (fail)
          go_upto_region 8 with fail
          go_quiet (fail)
          go_wp2_with fail
          go_roundg (gk - 1)
          case measure => omega
          case rel => exact ⟨i + 1, by go_num, by omega, by omega, by omega, ⟨_, rfl⟩, HE⟩
        · have HE : Hid (cmpF a b = 1) := Lib.hid (by rw [HC.out, HS.out, if_neg hb1, if_neg hpr])
          have hpr2 : (p == r) = false := by rw [beq_eq_false_iff_ne]; exact hpr
          clear HS HC hb1
          go_upto_region 6 with fail
          go_quiet (fail)
          go_upto_region 8 with fail
          go_quiet (fail)
          go_wp2
          go_ret
          rw [HE.out]
          exact ⟨rfl, ((HO.out.drewN q).drewN _).drewN _⟩
    · have HS := Lib.hid (cmp_end a b i (by rw [HN.out, HM.out]; exact hlt) (by rw [HN.out]; exact hin) (by rw [HM.out]; exact him))
      have hnot : ¬ ((i : Int) < (n : Int) ∧ (i : Int) < (m : Int)) := fun e => hlt ⟨by omega, by omega⟩
      by_cases g1 : n < m
      · have HE : Hid (cmpF a b = -1) := Lib.hid (by rw [HC.out, HS.out, HN.out, HM.out, if_pos g1])
        have g2 : (n : Int) < (m : Int) := by omega
        have g3 : ¬ (i : Int) < (n : Int) := by omega
        clear HS HC hnot
        go_wp2
        go_ret
        rw [HE.out]
        exact ⟨rfl, HO.out.drewN q⟩
      · by_cases g2 : m < n
        · have HE : Hid (cmpF a b = 1) := Lib.hid (by rw [HC.out, HS.out, HN.out, HM.out, if_neg g1, if_pos g2])
          have g3 : ¬ (n : Int) < (m : Int) := by omega
          have g4 : (m : Int) < (n : Int) := by omega
          have g5 : ¬ (i : Int) < (m : Int) := by omega
          have g6 : (i : Int) < (n : Int) := by omega
          clear HS HC hnot
          go_wp2
          go_ret
          rw [HE.out]
          exact ⟨rfl, HO.out.drewN q⟩
        · have HE : Hid (cmpF a b = 0) := Lib.hid (by rw [HC.out, HS.out, HN.out, HM.out, if_neg g1, if_neg g2])
          have g3 : ¬ (n : Int) < (m : Int) := by omega
          have g4 : ¬ (m : Int) < (n : Int) := by omega
          have g5 : ¬ (i : Int) < (n : Int) := by omega
          clear HS HC hnot
          go_wp2
          go_ret
          rw [HE.out]
          exact ⟨rfl, HO.out.drewN q⟩

theorem under_step (a b : List (List UInt8)) (i : Nat) (ha : i < a.length) (hb : i < b.length) (h : a.take i = b.take i) : a.take (i + 1) = b.take (i + 1) ↔ a.getD i [] = b.getD i [] := by
  rw [getD_take_snoc [] a i ha, getD_take_snoc [] b i hb, h]
  constructor
  · intro e
    have := List.append_cancel_left e
    simpa using this
  · intro e
    rw [e]
theorem under_no (a b : List (List UInt8)) (i : Nat) (ha : b.length < a.length) (hb : i < b.length) (h : a.take i = b.take i) (hne : ¬ a.getD i [] = b.getD i []) : underF a b = false := by
  unfold underF
  rw [decide_eq_true ha, Bool.true_and, beq_eq_false_iff_ne]
  intro e
  have e2 : a.take (i + 1) = b.take (i + 1) := by
    have := congrArg (List.take (i + 1)) e
    rw [List.take_take, Nat.min_eq_left (by omega)] at this
    exact this
  exact hne ((under_step a b i (by omega) hb h).1 e2)
set_option maxHeartbeats 8000000 in
theorem runder (x y : List UInt8) (w : World) (hx : x.length ≤ 800000) (hy : y.length ≤ 800000) : Calls Tryz.prog 58 #[.string (tx x), .string (tx y)] w fun e w' => e = .returned (.bool (underF (partsF x) (partsF y))) ∧ Only (fun _ => False) w w' := by
  have H1 := Lib.hid (rparts (tx x) w (by rw [tx_size]; omega))
  have H2 := Lib.hid fun w1 => rparts (tx y) w1 (by rw [tx_size]; omega)
  rw [tx_list] at H1 H2
  have hp := parts_few x
  have hq := parts_few y
  generalize partsF x = a at H1 hp ⊢
  generalize partsF y = b at H2 hq ⊢
  obtain ⟨n, hn⟩ : ∃ n, a.length = n := ⟨_, rfl⟩
  obtain ⟨m, hm⟩ : ∃ m, b.length = m := ⟨_, rfl⟩
  have HN := Lib.hid hn
  have HM := Lib.hid hm
  have hn2 : n ≤ 800001 := by omega
  have hm2 : m ≤ 800001 := by omega
  clear hp hq hx hy
  go_enter Tryz.func58, Tryz.ntmps58
  go_wp2_with fail
  refine H1.out.mono ?_
  rintro e w1 ⟨A, c, rfl, h1⟩
  have HA := Lib.hid h1
  rw [hn] at HA ⊢
  clear h1 H1
  go_wp2_with fail
  refine (H2.out w1).mono ?_
  rintro e w2 ⟨A2, c2, rfl, h2⟩
  have HO := Lib.hid (HA.out.2.1.trans h2.2.1)
  have HSA := Lib.hid (HA.out.1.only h2.2.1 fun _ _ f => f).see
  have HSB := Lib.hid h2.1.see
  rw [hm]
  clear h2 H2 HA hn hm
  by_cases hle : n ≤ m
  · have hle2 : (n : Int) ≤ (m : Int) := by omega
    have HE : Hid (underF a b = false) := Lib.hid (by unfold underF; rw [decide_eq_false (by rw [HN.out, HM.out]; omega)]; rfl)
    go_wp2
    go_ret
    rw [HE.out]
    exact ⟨rfl, HO.out⟩
  · have hle2 : ¬ (n : Int) ≤ (m : Int) := by omega
    go_wp2_with fail
    go_loopg [7] m (fun gk u wx => ∃ i : Nat, u = .int .i64 i ∧ i + gk = m ∧ (∃ q, wx = w2.drewN q) ∧ Hid (a.take i = b.take i))
    case atStart => exact ⟨0, rfl, by omega, ⟨0, rfl⟩, Lib.hid rfl⟩
    case round =>
      obtain ⟨i, rfl, hi, ⟨q, rfl⟩, HC⟩ := hrel
      by_cases l2 : i < m
      · have l4 : (i : Int) < (m : Int) := by omega
        obtain ⟨b1, o1, rfl, _, d1⟩ := HSA.out i _ (strs_at a i (by rw [HN.out]; omega))
        obtain ⟨b2, o2, rfl, _, d2⟩ := HSB.out i _ (strs_at b i (by rw [HM.out]; exact l2))
        have HS := Lib.hid (under_step a b i (by rw [HN.out]; omega) (by rw [HM.out]; exact l2) HC.out)
        have HU := Lib.hid (under_no a b i (by rw [HN.out, HM.out]; omega) (by rw [HM.out]; exact l2) HC.out)
        generalize a.getD i [] = p at d1 HS HU
        generalize b.getD i [] = r at d2 HS HU
        have t1 := tx_toList p
        have t2 := tx_toList r
        by_cases hpr : p = r
        · subst hpr
          have HE := Lib.hid (HS.out.2 rfl)
          clear HS HC HU
          go_upto_region 8 with fail
          go_quiet (fail)
          go_wp2_with fail
          go_roundg (gk - 1)
          case measure => omega
          case rel => exact ⟨i + 1, by go_num, by omega, ⟨_, rfl⟩, HE⟩
        · have HE := Lib.hid (HU.out hpr)
          have hpr2 : (p == r) = false := by rw [beq_eq_false_iff_ne]; exact hpr
          clear HS HC HU
          go_upto_region 8 with fail
          go_quiet (fail)
          go_wp2
          go_ret
          rw [HE.out]
          exact ⟨rfl, (HO.out.drewN q).drewN _⟩
      · obtain rfl : i = m := by omega
        have HE : Hid (underF a b = true) := Lib.hid (by
          have h1 := HC.out
          unfold underF
          rw [decide_eq_true (by rw [HN.out, HM.out]; omega), Bool.true_and, beq_iff_eq, HM.out, h1]
          exact List.take_of_length_le (by rw [HM.out]; exact Nat.le_refl _))
        go_wp2
        go_ret
        rw [HE.out]
        exact ⟨rfl, HO.out.drewN q⟩
end Go.Proofs.YtaeaomlhbdbbfaaGreatDoor

/- Layer 13, the document: code points, paths that may be, the path of a name. -/
namespace Go.Proofs.YtaeaomlhbdbbfaaGreatDoor
open Go.RowKit

theorem rlong (c : Nat) (w : World) (h : c < 256) : Calls Tryz.prog 83 #[.int .u8 c] w fun e w' => e = .returned (.tuple #[.int .i64 (longF c).1, .int .i64 (longF c).2]) ∧ w = w' := by
  unfold longF
  by_cases h1 : c < 128
  · have g1 : (c : Int) < 128 := by omega
    rw [if_pos h1]
    go_enter Tryz.func83, Tryz.ntmps83
    go_wp2
    go_ret2
    exact ⟨rfl, rfl⟩
  · have g1 : ¬ (c : Int) < 128 := by omega
    rw [if_neg h1]
    by_cases h2 : 192 ≤ c ∧ c < 224
    · have g2 : (192 : Int) ≤ (c : Int) := by omega
      have g3 : (c : Int) < 224 := by omega
      have g4 : (c : Int) - 192 = ((c - 192 : Nat) : Int) := by omega
      rw [if_pos h2]
      clear h2 h1
      generalize c - 192 = d at g4 ⊢
      go_enter Tryz.func83, Tryz.ntmps83
      go_wp2
      go_ret2
      exact ⟨rfl, rfl⟩
    · rw [if_neg h2]
      by_cases h3 : 224 ≤ c ∧ c < 240
      · have g2 : (192 : Int) ≤ (c : Int) := by omega
        have g3 : ¬ (c : Int) < 224 := by omega
        have g4 : (224 : Int) ≤ (c : Int) := by omega
        have g5 : (c : Int) < 240 := by omega
        have g6 : (c : Int) - 224 = ((c - 224 : Nat) : Int) := by omega
        rw [if_pos h3]
        clear h3 h2 h1
        generalize c - 224 = d at g6 ⊢
        go_enter Tryz.func83, Tryz.ntmps83
        go_wp2
        go_ret2
        exact ⟨rfl, rfl⟩
      · rw [if_neg h3]
        by_cases h4 : 240 ≤ c ∧ c < 248
        · have g2 : (192 : Int) ≤ (c : Int) := by omega
          have g3 : ¬ (c : Int) < 224 := by omega
          have g4 : (224 : Int) ≤ (c : Int) := by omega
          have g5 : ¬ (c : Int) < 240 := by omega
          have g6 : (240 : Int) ≤ (c : Int) := by omega
          have g7 : (c : Int) < 248 := by omega
          have g8 : (c : Int) - 240 = ((c - 240 : Nat) : Int) := by omega
          rw [if_pos h4]
          clear h4 h3 h2 h1
          generalize c - 240 = d at g8 ⊢
          go_enter Tryz.func83, Tryz.ntmps83
          go_wp2
          go_ret2
          exact ⟨rfl, rfl⟩
        · rw [if_neg h4]
          by_cases h5 : 192 ≤ c
          · have g2 : (192 : Int) ≤ (c : Int) := by omega
            have g3 : ¬ (c : Int) < 224 := by omega
            have g4 : (224 : Int) ≤ (c : Int) := by omega
            have g5 : ¬ (c : Int) < 240 := by omega
            have g6 : (240 : Int) ≤ (c : Int) := by omega
            have g7 : ¬ (c : Int) < 248 := by omega
            clear h5 h4 h3 h2 h1
            go_enter Tryz.func83, Tryz.ntmps83
            go_wp2
            go_ret2
            exact ⟨rfl, rfl⟩
          · have g2 : ¬ (192 : Int) ≤ (c : Int) := by omega
            have g4 : ¬ (224 : Int) ≤ (c : Int) := by omega
            have g6 : ¬ (240 : Int) ≤ (c : Int) := by omega
            clear h5 h4 h3 h2 h1
            go_enter Tryz.func83, Tryz.ntmps83
            go_wp2
            go_ret2
            exact ⟨rfl, rfl⟩

set_option maxRecDepth 20000 in
set_option maxHeartbeats 8000000 in
theorem rnext (l : List UInt8) (a : Nat) (w : World) (ha : a < l.length) (hs : l.length ≤ 1000000) : Calls Tryz.prog 69 #[.string (tx l), .int .i64 a] w fun e w' => e = .returned (.tuple #[.int .i64 (nextF l a).1, .int .i64 (nextF l a).2]) ∧ Only (fun _ => False) w w' := by
  have hz : (tx l).size = l.length := tx_size l
  obtain ⟨b, hb⟩ : ∃ b, (tx l)[a]'(by omega) = b := ⟨_, rfl⟩
  have eb : l.getD a 0 = b := by rw [← hb, tx_byte]
  have HR := Lib.hid (rlong b.toNat w b.toNat_lt)
  have hle := longF_le b.toNat
  have HX : Hid (nextF l a = if (longF b.toNat).1 = 0 ∨ l.length < a + (longF b.toNat).1 then (0, 0) else endF (longF b.toNat).1 (contF l a ((longF b.toNat).1 - 1) 1 (longF b.toNat).2)) := Lib.hid (by unfold nextF; rw [eb])
  obtain ⟨n, hn⟩ : ∃ n, (longF b.toNat).1 = n := ⟨_, rfl⟩
  obtain ⟨c0, hc0⟩ : ∃ c, (longF b.toNat).2 = c := ⟨_, rfl⟩
  rw [hn, hc0] at HX hle HR
  obtain ⟨N, hN⟩ : ∃ N, l.length = N := ⟨_, rfl⟩
  rw [hN] at HX hz hs ha
  clear eb hn hc0
  go_enter Tryz.func69, Tryz.ntmps69
  go_wp2_with fail
  refine HR.out.mono ?_
  rintro e _ ⟨rfl, rfl⟩
  clear HR
  by_cases h0 : n = 0
  · subst h0
    have HE : Hid (nextF l a = (0, 0)) := Lib.hid (by rw [HX.out, if_pos (.inl rfl)])
    go_wp2
    go_ret2
    rw [HE.out]
    exact ⟨rfl, Only.refl _ w⟩
  · have h01 : ¬ (n : Int) = 0 := by omega
    by_cases h1 : N < a + n
    · have h11 : (N : Int) < (a : Int) + (n : Int) := by omega
      have HE : Hid (nextF l a = (0, 0)) := Lib.hid (by rw [HX.out, if_pos (.inr h1)])
      go_wp2
      go_ret2
      rw [HE.out]
      exact ⟨rfl, Only.refl _ w⟩
    · have h11 : ¬ (N : Int) < (a : Int) + (n : Int) := by omega
      have HY : Hid (nextF l a = endF n (contF l a (n - 1) 1 c0)) := Lib.hid (by rw [HX.out, if_neg (by omega)])
      have h12 : ((n : Int) == 0) = false := by rw [beq_eq_false_iff_ne]; exact h01
      have h13 : decide ((N : Int) < (a : Int) + (n : Int)) = false := decide_eq_false h11
      clear HX
      go_wp2_with fail
      go_loopg [7, 8] (n - 1) (fun gk u v wx => ∃ code k : Nat, u = .int .i64 code ∧ v = .int .i64 k ∧ k + gk = n ∧ 1 ≤ k ∧ code ≤ 40000000 ∧ (k = 1 → code < 128) ∧ (k = 2 → code < 8192) ∧ (k = 3 → code < 524288) ∧ wx = w ∧ Hid (contF l a (n - 1) 1 c0 = contF l a gk k code))
      case atStart => exact ⟨c0, 1, rfl, rfl, by omega, by omega, by omega, by omega, by omega, by omega, rfl, Lib.hid rfl⟩
      case round =>
        obtain ⟨code, k, rfl, rfl, hk, hk1, hc, hc1, hc2, hc3, rfl, HC⟩ := hrel
        by_cases hlt : k < n
        · obtain ⟨g, rfl⟩ : ∃ g, gk = g + 1 := ⟨gk - 1, by omega⟩
          have hlt2 : (k : Int) < (n : Int) := by omega
          obtain ⟨p, hp⟩ : ∃ p, a + k = p := ⟨_, rfl⟩
          have hp2 : (a : Int) + (k : Int) = (p : Int) := by omega
          obtain ⟨x, hx⟩ : ∃ x, (tx l)[p]'(by omega) = x := ⟨_, rfl⟩
          have ex : l.getD (a + k) 0 = x := by rw [← hx, tx_byte, hp]
          have HS : Hid (contF l a (g + 1) k code = if x.toNat < 128 ∨ 192 ≤ x.toNat then none else contF l a g (k + 1) (64 * code + x.toNat - 128)) := Lib.hid (by rw [contF, ex])
          clear ex
          by_cases g1 : x.toNat < 128
          · have g2 : (x.toNat : Int) < 128 := by omega
            have HE : Hid (nextF l a = (0, 0)) := Lib.hid (by rw [HY.out, HC.out, HS.out, if_pos (.inl g1)]; rfl)
            go_wp2
            go_ret2
            rw [HE.out]
            exact ⟨rfl, Only.refl _ _⟩
          · have g2 : ¬ (x.toNat : Int) < 128 := by omega
            by_cases g3 : 192 ≤ x.toNat
            · have g4 : (192 : Int) ≤ (x.toNat : Int) := by omega
              have HE : Hid (nextF l a = (0, 0)) := Lib.hid (by rw [HY.out, HC.out, HS.out, if_pos (.inr g3)]; rfl)
              go_wp2
              go_ret2
              rw [HE.out]
              exact ⟨rfl, Only.refl _ _⟩
            · have g4 : ¬ (192 : Int) ≤ (x.toNat : Int) := by omega
              obtain ⟨c2, hcc⟩ : ∃ c2, 64 * code + x.toNat - 128 = c2 := ⟨_, rfl⟩
              have hcc2 : 64 * (code : Int) + (x.toNat : Int) - 128 = (c2 : Int) := by omega
              have HE : Hid (contF l a (n - 1) 1 c0 = contF l a g (k + 1) c2) := Lib.hid (by rw [HC.out, HS.out, if_neg (by omega), hcc])
              go_wp2_with fail
              go_roundg g
              case measure => omega
              case rel => exact ⟨c2, k + 1, by go_num, by go_num, by omega, by omega, by omega, by omega, by omega, by omega, rfl, HE⟩
        · obtain rfl : gk = 0 := by omega
          obtain rfl : k = n := by omega
          have hlt2 : ¬ (k : Int) < (k : Int) := by omega
          obtain ⟨L, hL⟩ : ∃ L, leastC k = L := ⟨_, rfl⟩
          have HE : Hid (nextF l a = if code < L ∨ 1114111 < code ∨ (55296 ≤ code ∧ code < 57344) then (0, 0) else (code, k)) := Lib.hid (by rw [HY.out, HC.out, contF, endF, hL])
          have hld : ∀ W : World, (W.alloc (.cells #[.int .i64 0, .int .i64 0, .int .i64 128, .int .i64 2048, .int .i64 65536] 3)).cell? ⟨W.heap.size, k, none⟩ = some (.int .i64 (L : Nat)) := fun W => by
            refine (Is.new W 3 [.int .i64 0, .int .i64 0, .int .i64 128, .int .i64 2048, .int .i64 65536]).cell k ?_
            rw [← hL]
            rcases (show k = 1 ∨ k = 2 ∨ k = 3 ∨ k = 4 by omega) with rfl | rfl | rfl | rfl <;> rfl
          clear HY HC
          by_cases c1 : code < L
          · have k1 : decide ((code : Int) < (L : Int)) = true := decide_eq_true (by omega)
            have HF : Hid (nextF l a = (0, 0)) := Lib.hid (by rw [HE.out, if_pos (by omega)])
            clear HE
            go_wp2
            go_ret2
            rw [HF.out]
            exact ⟨rfl, (Only.refl _ _).alloc _⟩
          · have k1 : decide ((code : Int) < (L : Int)) = false := decide_eq_false (by omega)
            by_cases c2 : 1114111 < code
            · have k2 : decide ((1114111 : Int) < (code : Int)) = true := decide_eq_true (by omega)
              have HF : Hid (nextF l a = (0, 0)) := Lib.hid (by rw [HE.out, if_pos (by omega)])
              clear HE
              go_wp2
              go_ret2
              rw [HF.out]
              exact ⟨rfl, (Only.refl _ _).alloc _⟩
            · have k2 : decide ((1114111 : Int) < (code : Int)) = false := decide_eq_false (by omega)
              by_cases c3 : 55296 ≤ code
              · have k3 : decide ((55296 : Int) ≤ (code : Int)) = true := decide_eq_true (by omega)
                by_cases c4 : code < 57344
                · have k4 : decide ((code : Int) < 57344) = true := decide_eq_true (by omega)
                  have HF : Hid (nextF l a = (0, 0)) := Lib.hid (by rw [HE.out, if_pos (by omega)])
                  clear HE
                  go_wp2
                  go_ret2
                  rw [HF.out]
                  exact ⟨rfl, (Only.refl _ _).alloc _⟩
                · have k4 : decide ((code : Int) < 57344) = false := decide_eq_false (by omega)
                  have HF : Hid (nextF l a = (code, k)) := Lib.hid (by rw [HE.out, if_neg (by omega)])
                  clear HE
                  go_wp2
                  go_ret2
                  rw [HF.out]
                  exact ⟨rfl, (Only.refl _ _).alloc _⟩
              · have k3 : decide ((55296 : Int) ≤ (code : Int)) = false := decide_eq_false (by omega)
                have HF : Hid (nextF l a = (code, k)) := Lib.hid (by rw [HE.out, if_neg (by omega)])
                clear HE
                go_wp2
                go_ret2
                rw [HF.out]
                exact ⟨rfl, (Only.refl _ _).alloc _⟩
end Go.Proofs.YtaeaomlhbdbbfaaGreatDoor

/- Layer 13, the document: paths that may be, the path of a name. -/
namespace Go.Proofs.YtaeaomlhbdbbfaaGreatDoor
open Go.RowKit

theorem right_no {l : List UInt8} (h : decide (1 ≤ l.length) = false ∨ decide (l.length ≤ 1024) = false ∨ bytesOk l l.length 0 = false ∨ decide ((partsF l).length ≤ 32) = false ∨ (partsF l).all partOk = false) : rightF l = false := by
  unfold rightF
  rcases h with h | h | h | h | h <;> rw [h] <;> simp
theorem all_take (q : List UInt8 → Bool) (ps : List (List UInt8)) (i : Nat) (h : i < ps.length) : (ps.take (i + 1)).all q = ((ps.take i).all q && q (ps.getD i [])) := by
  rw [getD_take_snoc [] ps i h, List.all_append]
  simp
set_option maxRecDepth 20000 in
set_option maxHeartbeats 8000000 in
theorem rright (l : List UInt8) (w : World) (hs : l.length ≤ 800000) : Calls Tryz.prog 55 #[.string (tx l)] w fun e w' => e = .returned (.bool (rightF l)) ∧ Only (fun _ => False) w w' := by
  have hz : (tx l).size = l.length := tx_size l
  obtain ⟨N, hN⟩ : ∃ N, l.length = N := ⟨_, rfl⟩
  have HN := Lib.hid hN
  have HNO : Hid ((decide (1 ≤ l.length) = false ∨ decide (l.length ≤ 1024) = false ∨ bytesOk l l.length 0 = false ∨ decide ((partsF l).length ≤ 32) = false ∨ (partsF l).all partOk = false) → rightF l = false) := Lib.hid right_no
  rw [hN] at hz hs
  clear hN
  go_enter Tryz.func55, Tryz.ntmps55
  by_cases h1 : N < 1
  · have k1 : decide ((N : Int) < 1) = true := decide_eq_true (by omega)
    have HE := Lib.hid (HNO.out (.inl (decide_eq_false (by rw [HN.out]; omega))))
    go_wp2
    go_ret
    rw [HE.out]
    exact ⟨rfl, Only.refl _ _⟩
  · have k1 : decide ((N : Int) < 1) = false := decide_eq_false (by omega)
    by_cases h2 : 1024 < N
    · have k2 : decide (1024 < (N : Int)) = true := decide_eq_true (by omega)
      have HE := Lib.hid (HNO.out (.inr (.inl (decide_eq_false (by rw [HN.out]; omega)))))
      go_wp2
      go_ret
      rw [HE.out]
      exact ⟨rfl, Only.refl _ _⟩
    · have k2 : decide (1024 < (N : Int)) = false := decide_eq_false (by omega)
      have HNX : Hid (∀ (a : Nat) (w1 : World), a < N → Calls Tryz.prog 69 #[.string (tx l), .int .i64 a] w1 fun e w' => e = .returned (.tuple #[.int .i64 (nextF l a).1, .int .i64 (nextF l a).2]) ∧ Only (fun _ => False) w1 w') := Lib.hid fun a w1 h => rnext l a w1 (by rw [HN.out]; exact h) (by rw [HN.out]; omega)
      go_wp2_with fail
      go_loopg [3] N (fun gk u wx => ∃ a : Nat, u = .int .i64 a ∧ N ≤ a + gk ∧ a ≤ N + 4 ∧ Hid (Only (fun _ => False) w wx) ∧ Hid (bytesOk l l.length 0 = bytesOk l gk a))
      case atStart => exact ⟨0, rfl, by omega, by omega, Lib.hid (Only.refl _ _), Lib.hid (by rw [HN.out])⟩
      case round =>
        obtain ⟨a, rfl, hag, ha4, HO, HC⟩ := hrel
        by_cases hlt : a < N
        · obtain ⟨g, rfl⟩ : ∃ g, gk = g + 1 := ⟨gk - 1, by omega⟩
          have hlt2 : (a : Int) < (N : Int) := by omega
          have HX := Lib.hid (HNX.out a wr hlt)
          have HS := Lib.hid (bytesOk_step l g a (by rw [HN.out]; exact hlt))
          have hn4 := (nextF_le l a).1
          obtain ⟨b, hb⟩ : ∃ b, (tx l)[a]'(by omega) = b := ⟨_, rfl⟩
          have eb : l.getD a 0 = b := by rw [← hb, tx_byte]
          rw [eb] at HS
          generalize (nextF l a).1 = code at HX
          generalize (nextF l a).2 = n at HX HS hn4
          clear eb HNX
          go_wp2_with fail
          refine HX.out.mono ?_
          rintro e w2 ⟨rfl, o2⟩
          have HO2 := Lib.hid (HO.out.trans o2)
          clear o2 HX HO
          by_cases c1 : n = 0
          · have q1 : ((n : Int) == 0) = true := by rw [beq_iff_eq]; omega
            have HE := Lib.hid (HNO.out (.inr (.inr (.inl (by rw [HC.out, HS.out, if_pos (.inl c1)])))))
            clear HS HC HNO
            go_wp2
            go_ret
            rw [HE.out]
            exact ⟨rfl, HO2.out⟩
          · have q1 : ((n : Int) == 0) = false := by rw [beq_eq_false_iff_ne]; omega
            by_cases c2 : b.toNat < 32
            · have q2 : decide ((b.toNat : Int) < 32) = true := decide_eq_true (by omega)
              have HE := Lib.hid (HNO.out (.inr (.inr (.inl (by rw [HC.out, HS.out, if_pos (.inr (.inl c2))])))))
              clear HS HC HNO
              go_wp2
              go_ret
              rw [HE.out]
              exact ⟨rfl, HO2.out⟩
            · have q2 : decide ((b.toNat : Int) < 32) = false := decide_eq_false (by omega)
              by_cases c3 : b.toNat = 127
              · have q3 : ((b.toNat : Int) == 127) = true := by rw [beq_iff_eq]; omega
                have HE := Lib.hid (HNO.out (.inr (.inr (.inl (by rw [HC.out, HS.out, if_pos (.inr (.inr (.inl c3)))])))))
                clear HS HC HNO
                go_wp2
                go_ret
                rw [HE.out]
                exact ⟨rfl, HO2.out⟩
              · have q3 : ((b.toNat : Int) == 127) = false := by rw [beq_eq_false_iff_ne]; omega
                by_cases c4 : b.toNat = 92
                · have q4 : ((b.toNat : Int) == 92) = true := by rw [beq_iff_eq]; omega
                  have HE := Lib.hid (HNO.out (.inr (.inr (.inl (by rw [HC.out, HS.out, if_pos (.inr (.inr (.inr c4)))])))))
                  clear HS HC HNO
                  go_wp2
                  go_ret
                  rw [HE.out]
                  exact ⟨rfl, HO2.out⟩
                · have q4 : ((b.toNat : Int) == 92) = false := by rw [beq_eq_false_iff_ne]; omega
                  have HE : Hid (bytesOk l l.length 0 = bytesOk l g (a + n)) := Lib.hid (by rw [HC.out, HS.out, if_neg (by omega)])
                  clear HS HC HNO
                  go_wp2_with fail
                  go_roundg g
                  case measure => omega
                  case rel => exact ⟨a + n, by go_num, by omega, by omega, HO2, HE⟩
        · have hlt2 : ¬ (a : Int) < (N : Int) := by omega
          have HB : Hid (bytesOk l l.length 0 = true) := Lib.hid (by rw [HC.out, bytesOk_end l gk a (by rw [HN.out]; exact hlt)])
          have HP := Lib.hid (rparts (tx l) wr (by rw [tx_size, HN.out]; omega))
          rw [tx_list] at HP
          have HR : Hid (rightF l = (decide ((partsF l).length ≤ 32) && (partsF l).all partOk)) := Lib.hid (by
            unfold rightF
            rw [HB.out, decide_eq_true (by rw [HN.out]; omega), decide_eq_true (by rw [HN.out]; omega)]
            simp)
          have hpf := parts_few l
          rw [HN.out] at hpf
          clear HC HB HNX HNO
          generalize partsF l = ps at HP HR hpf
          go_wp2_with fail
          refine HP.out.mono ?_
          rintro e w2 ⟨A, c, rfl, h2⟩
          have HO2 := Lib.hid (HO.out.trans h2.2.1)
          have HSA := Lib.hid h2.1.see
          clear h2 HP HO
          obtain ⟨n, hn⟩ : ∃ n, ps.length = n := ⟨_, rfl⟩
          have HNP := Lib.hid hn
          rw [hn] at hpf ⊢
          clear hn
          by_cases c1 : 32 < n
          · have q1 : (32 : Int) < (n : Int) := by omega
            have HE : Hid (rightF l = false) := Lib.hid (by rw [HR.out, decide_eq_false (by rw [HNP.out]; omega)]; rfl)
            go_wp2
            go_ret
            rw [HE.out]
            exact ⟨rfl, HO2.out⟩
          · have q1 : ¬ (32 : Int) < (n : Int) := by omega
            have HR2 : Hid (rightF l = ps.all partOk) := Lib.hid (by rw [HR.out, decide_eq_true (by rw [HNP.out]; omega), Bool.true_and])
            clear HR
            go_wp2_with fail
            go_loopg [7] n (fun gk u wx => ∃ i : Nat, u = .int .i64 i ∧ i + gk = n ∧ (∃ q, wx = w2.drewN q) ∧ Hid ((ps.take i).all partOk = true))
            case atStart => exact ⟨0, rfl, by omega, ⟨0, rfl⟩, Lib.hid rfl⟩
            case round =>
              obtain ⟨i, rfl, hi, ⟨q, rfl⟩, HC⟩ := hrel
              by_cases l2 : i < n
              · have l4 : (i : Int) < (n : Int) := by omega
                obtain ⟨b1, o1, rfl, _, d1⟩ := HSA.out i _ (strs_at ps i (by rw [HNP.out]; exact l2))
                have HT := Lib.hid (all_take partOk ps i (by rw [HNP.out]; exact l2))
                have HF : Hid (partOk (ps.getD i []) = false → rightF l = false) := Lib.hid fun hf => by
                  rw [HR2.out, List.all_eq_false]
                  refine ⟨ps.getD i [], ?_, by rw [hf]; decide⟩
                  rw [List.getD_eq_getElem?_getD, List.getElem?_eq_getElem (by rw [HNP.out]; exact l2)]
                  exact List.getElem_mem _
                generalize ps.getD i [] = p at d1 HT HF
                have t1 := tx_toList p
                have HP : Hid (partOk p = !(decide (p = []) || decide (255 < p.length) || decide (p = [46]) || decide (p = [46, 46]))) := Lib.hid rfl
                obtain ⟨z, hz2⟩ : ∃ z, p.length = z := ⟨_, rfl⟩
                have hz3 : (tx p).size = z := by rw [tx_size]; exact hz2
                rw [hz2] at HP
                clear hz2
                by_cases c2 : p = []
                · have q2 : p.isEmpty = true := by rw [c2]; rfl
                  have HE := Lib.hid (HF.out (by rw [HP.out, decide_eq_true c2]; simp))
                  clear c2 HT HF HP
                  go_wp2
                  go_ret
                  rw [HE.out]
                  exact ⟨rfl, HO2.out.drewN q⟩
                · have q2 : p.isEmpty = false := by rw [List.isEmpty_eq_false_iff]; exact c2
                  by_cases c3 : 255 < z
                  · have q3 : decide ((255 : Int) < (z : Int)) = true := decide_eq_true (by omega)
                    have HE := Lib.hid (HF.out (by rw [HP.out, decide_eq_true c3]; simp))
                    clear c2 HT HF HP
                    go_wp2
                    go_ret
                    rw [HE.out]
                    exact ⟨rfl, HO2.out.drewN q⟩
                  · have q3 : decide ((255 : Int) < (z : Int)) = false := decide_eq_false (by omega)
                    by_cases c4 : p = [46]
                    · have q4 : (p == [46]) = true := by rw [beq_iff_eq]; exact c4
                      have HE := Lib.hid (HF.out (by rw [HP.out, decide_eq_true c4]; simp))
                      clear c2 c4 HT HF HP
                      go_wp2
                      go_ret
                      rw [HE.out]
                      exact ⟨rfl, HO2.out.drewN q⟩
                    · have q4 : (p == [46]) = false := by rw [beq_eq_false_iff_ne]; exact c4
                      by_cases c5 : p = [46, 46]
                      · have q5 : (p == [46, 46]) = true := by rw [beq_iff_eq]; exact c5
                        have HE := Lib.hid (HF.out (by rw [HP.out, decide_eq_true c5]; simp))
                        clear c2 c4 c5 HT HF HP
                        go_wp2
                        go_ret
                        rw [HE.out]
                        exact ⟨rfl, HO2.out.drewN q⟩
                      · have q5 : (p == [46, 46]) = false := by rw [beq_eq_false_iff_ne]; exact c5
                        have HE : Hid ((ps.take (i + 1)).all partOk = true) := Lib.hid (by
                          rw [HT.out, HC.out, HP.out, decide_eq_false c2, decide_eq_false c3, decide_eq_false c4, decide_eq_false c5]
                          rfl)
                        clear c2 c4 c5 HT HF HP HC
                        go_wp2_with fail
                        go_roundg (gk - 1)
                        case measure => omega
                        case rel => exact ⟨i + 1, by go_num, by omega, ⟨_, rfl⟩, HE⟩
              · obtain rfl : i = n := by omega
                have HE : Hid (rightF l = true) := Lib.hid (by
                  have h1 := HC.out
                  rw [List.take_of_length_le (by rw [HNP.out]; exact Nat.le_refl _)] at h1
                  rw [HR2.out, h1])
                go_wp2
                go_ret
                rw [HE.out]
                exact ⟨rfl, HO2.out.drewN q⟩

theorem filter_take (q : List UInt8 → Bool) (ps : List (List UInt8)) (i : Nat) (h : i < ps.length) : (ps.take (i + 1)).filter q = (ps.take i).filter q ++ if q (ps.getD i []) = true then [ps.getD i []] else [] := by
  rw [getD_take_snoc [] ps i h, List.filter_append]
  congr 1
  rw [List.filter_cons]
  split <;> rfl
theorem filter_le (q : List UInt8 → Bool) (ps : List (List UInt8)) (i : Nat) : ((ps.take i).filter q).length ≤ i := by
  have h1 := List.length_filter_le q (ps.take i)
  rw [List.length_take] at h1
  omega
end Go.Proofs.YtaeaomlhbdbbfaaGreatDoor
