/- Layer 13, the document: parts of a text, their order, parents, codes, paths that may be. -/
import Derived.Test.YtmdfkchgklphlaaRtM
import Derived.Laws.Cover1
/- Layer 13, the document: parts of a text. -/
namespace Go.Proofs.Ytmdfkchgklphlaa
open Go.RowKit

theorem Src.oneStr {P : Program} {t e : TypeId} (hk : P.underlying t = some (.slice e)) (w : World) (s : ByteArray) (c : Nat) (t' : TypeId) : Src P 1 t (.slice (some ⟨w.heap.size, 0, none⟩) 1 c) 1 [.string s] (w.alloc (.cells #[.string s] t')) :=
  Src.ofSlice _ hk _ 1 c _ rfl (cell_one_new w _ t') (by simp; rfl)
theorem infoStr : (Try.prog.info? 9).map (fun i => (i.zero, i.size, i.bytes)) = some (some (.string ByteArray.empty), 1, 16) := by kernel_rfl
theorem zeroStr : (Value.string ByteArray.empty).cells.size = 1 := by simp [Value.cells]
/-- A row of texts of the call's own, laid since w. -/
def SMade (w : World) (A : Option Addr) (n c : Nat) (ps : List (List UInt8)) (wx : World) : Prop := Rs 9 1 wx A n c (strs ps) ∧ Only (fun _ => False) w wx ∧ ∀ j, Lies A j → w.heap.size ≤ j
theorem SMade.nil (w : World) : SMade w none 0 0 [] w := ⟨Rs.nil _ 1 w, Only.refl _ w, by rintro j ⟨ad, e, _⟩; cases e⟩
theorem SMade.append {w wx wy : World} {A A' : Option Addr} {n c n' c' : Nat} {l l' : List (List UInt8)} {o : Obj} (h : SMade w A n c l wx) (hr : Rs 9 1 wy A' n' c' (strs l')) (ho : Only (Lies A) (wx.alloc o) wy) (ha : A' = A ∨ A' = some ⟨(wx.alloc o).heap.size, 0, none⟩) : SMade w A' n' c' l' wy := by
  refine ⟨hr, (h.2.1.alloc o).andThen ho fun j hj => .inr (h.2.2 j hj), fun j hj => ?_⟩
  rcases ha with e | e
  · exact h.2.2 j (e ▸ hj)
  · obtain ⟨ad, e1, e2⟩ := hj
    rw [e] at e1
    obtain rfl := Option.some.inj e1
    rw [← e2]
    exact (h.2.1.alloc o).size
/-- What is answered: a row of texts. -/
def StrsP (w : World) (ps : List (List UInt8)) (e : Ending) (w' : World) : Prop := ∃ A c, e = .returned (.slice A ps.length c) ∧ SMade w A ps.length c ps w'
theorem byte_is (s : ByteArray) (i : Nat) (h : i < s.size) : s[i]'h = s.data.toList.getD i 0 := by
  have h2 : i < s.data.toList.length := by simpa using h
  rw [List.getD_eq_getElem?_getD, List.getElem?_eq_getElem h2]
  rfl

theorem empty_no {s : ByteArray} (h : ¬ s.data.toList = []) : s.toList.isEmpty = false := by
  rw [ByteArray.toList_eq, List.isEmpty_eq_false_iff]
  exact h
set_option maxHeartbeats 4000000 in
theorem rparts (s : ByteArray) (w : World) (hs : s.size ≤ 900000) : Calls Try.prog 19 #[.string s] w (StrsP w (partsF s.data.toList)) := by
  obtain ⟨n, hn⟩ : ∃ n, s.size = n := ⟨_, rfl⟩
  have HN : Hid (s.data.toList.length = n) := Lib.hid hn
  by_cases h0 : s.data.toList = []
  · have e0 : s = ByteArray.empty := by rw [← tx_self s, h0]; rfl
    unfold partsF
    rw [if_pos h0]
    subst e0
    go_enter Try.func19, Try.ntmps19
    go_wp2
    go_ret
    exact ⟨none, 0, rfl, SMade.nil w⟩
  · have e0 := empty_no h0
    have HP : Hid (partsF s.data.toList = splitF s.data.toList) := Lib.hid (if_neg h0)
    clear h0
    go_enter Try.func19, Try.ntmps19
    go_wp2_with fail
    go_loopg [3, 4, 5] (n + 1) (fun gk u v x wx => ∃ (A : Option Addr) (c f i : Nat) (done : List (List UInt8)), u = .slice A done.length c ∧ v = .int .i64 f ∧ x = .int .i64 i ∧ i + gk = n + 1 ∧ done.length ≤ i ∧ Hid (PtAt s.data.toList i f done) ∧ Hid (SMade w A done.length c done wx))
    case atStart => exact ⟨none, 0, 0, 0, [], rfl, rfl, rfl, by omega, Nat.le_refl _, Lib.hid (PtAt.start _), Lib.hid (SMade.nil w)⟩
    case round =>
      obtain ⟨A, c, f, i, done, rfl, rfl, rfl, hi, hdl, HT, HM⟩ := hrel
      obtain ⟨m, hm⟩ : ∃ m, done.length = m := ⟨_, rfl⟩
      rw [hm] at HM hdl ⊢
      by_cases hlt : i < n
      · have hle : (i : Int) ≤ (n : Int) := by omega
        have hne : ¬ (i : Int) = (n : Int) := by omega
        have hne2 : ((i : Int) == (n : Int)) = false := by rw [beq_eq_false_iff_ne]; exact hne
        obtain ⟨b, hb⟩ : ∃ b, s[i]'(by omega) = b := ⟨_, rfl⟩
        have eb : s.data.toList.getD i 0 = b := by rw [← hb, byte_is]
        by_cases h47 : b = 47
        · subst h47
          obtain ⟨hfi, hcut⟩ := HT.out.cut (by rw [HN.out]; exact hlt) eb
          have HT2 := Lib.hid hcut
          have hex : s.extract f i = tx ((s.data.toList.take i).drop f) := tx_cut s f i
          generalize (s.data.toList.take i).drop f = P at HT2 hex
          clear hcut eb
          go_wp2_with (at_builtin
                       refine wpList_append_rs rfl (.tmp 24) (.tmp 29) 26 26 9 rfl Try.underlying26 infoStr zeroStr A m c (strs done) [.string (tx P)] (.slice (some ⟨wr.heap.size, 0, none⟩) 1 1) (by rfl) (by rfl) (HM.out.1.alloc _) (Src.oneStr Try.underlying26 wr (tx P) 1 9) (by omega) (by omega) ?_
                       intro A2 c2 w2 hrow2 honly2 hlies2
                       have HM2 : Hid (SMade w A2 (m + 1) c2 (done ++ [P]) w2) := Lib.hid (HM.out.append (by rw [← strs_snoc]; exact hrow2) honly2 hlies2)
                       clear hrow2 honly2 hlies2)
          go_roundg (gk - 1)
          case measure => omega
          case rel =>
            have e : (done ++ [P]).length = m + 1 := by rw [List.length_append, hm]; rfl
            refine ⟨A2, c2, i + 1, i + 1, done ++ [P], by rw [e], by go_num, by go_num, by omega, by rw [e]; omega, HT2, ?_⟩
            rw [e]
            exact HM2
        · have HT2 := Lib.hid (HT.out.skip (by rw [HN.out]; exact hlt) (by rw [eb]; exact h47))
          have h48 : ¬ (b.toNat : Int) = 47 := fun e => h47 (UInt8.toNat_inj.1 (by show b.toNat = 47; omega))
          have h49 : ((b.toNat : Int) == 47) = false := by rw [beq_eq_false_iff_ne]; exact h48
          clear eb h47
          go_wp2_with fail
          go_roundg (gk - 1)
          case measure => omega
          case rel =>
            refine ⟨A, c, f, i + 1, done, by rw [hm], rfl, by go_num, by omega, by omega, HT2, ?_⟩
            rw [hm]
            exact HM
      · by_cases hin : i = n
        · subst hin
          have h1 := HT.out
          rw [← HN.out] at h1
          obtain ⟨hfi, hcut⟩ := h1.last
          rw [HN.out] at hfi hcut
          have HT2 := Lib.hid hcut
          have hex : s.extract f i = tx ((s.data.toList.take i).drop f) := tx_cut s f i
          generalize (s.data.toList.take i).drop f = P at HT2 hex
          clear hcut h1
          go_wp2_with (at_builtin
                       refine wpList_append_rs rfl (.tmp 24) (.tmp 29) 26 26 9 rfl Try.underlying26 infoStr zeroStr A m c (strs done) [.string (tx P)] (.slice (some ⟨wr.heap.size, 0, none⟩) 1 1) (by rfl) (by rfl) (HM.out.1.alloc _) (Src.oneStr Try.underlying26 wr (tx P) 1 9) (by omega) (by omega) ?_
                       intro A2 c2 w2 hrow2 honly2 hlies2
                       have HM2 : Hid (SMade w A2 (m + 1) c2 (done ++ [P]) w2) := Lib.hid (HM.out.append (by rw [← strs_snoc]; exact hrow2) honly2 hlies2)
                       clear hrow2 honly2 hlies2)
          go_roundg (gk - 1)
          case measure => omega
          case rel =>
            have e : (done ++ [P]).length = m + 1 := by rw [List.length_append, hm]; rfl
            refine ⟨A2, c2, i + 1, i + 1, done ++ [P], by rw [e], by go_num, by go_num, by omega, by rw [e]; omega, HT2, ?_⟩
            rw [e]
            exact HM2
        · have hin2 : i = n + 1 := by omega
          subst hin2
          have h1 := HT.out
          rw [← HN.out] at h1
          have HE := Lib.hid h1.done
          clear h1
          go_wp2
          go_ret
          rw [HP.out, ← HE.out]
          refine ⟨A, c, by rw [hm]; rfl, ?_⟩
          rw [hm]
          exact HM.out
end Go.Proofs.Ytmdfkchgklphlaa

/- Layer 13, the document: parts joined, parents, names, what is under what, and the order. -/
namespace Go.Proofs.Ytmdfkchgklphlaa
open Go.RowKit

theorem getD_take_snoc {α : Type} (d : α) (l : List α) (i : Nat) (h : i < l.length) : l.take (i + 1) = l.take i ++ [l.getD i d] := by
  rw [List.take_add_one, List.getD_eq_getElem?_getD, List.getElem?_eq_getElem h]
  rfl
/-- One text behind the other. -/
theorem add_tx {P : Program} (a b : List UInt8) (ha : a.length ≤ 4000000000) (hb : b.length ≤ 4000000000) : ∀ w : World, (Op.stringOp .add (tx a) (tx b)).run P w = .ok (.string (tx (a ++ b))) w := fun w => by
  rw [← tx_add]
  exact run_string_add_sum w (tx a) (tx b) (by rw [tx_size, tx_size]; omega)
theorem toList_tx (l : List UInt8) : (tx l).toList = l := tx_toList l
/-- A byte of a text. -/
theorem tx_byte (l : List UInt8) (i : Nat) (h : i < (tx l).size) : (tx l)[i]'h = l.getD i 0 := byte_is (tx l) i h

end Go.Proofs.Ytmdfkchgklphlaa

/- Layer 13, the document: what is under what, and the order. -/
namespace Go.Proofs.Ytmdfkchgklphlaa
open Go.RowKit

theorem cmp_step (a b : List (List UInt8)) (i : Nat) (ha : i < a.length) (hb : i < b.length) :
    cmpF (a.drop i) (b.drop i) = if Op.bytesLess (a.getD i []) (b.getD i []) = true then -1 else if a.getD i [] = b.getD i [] then cmpF (a.drop (i + 1)) (b.drop (i + 1)) else 1 := by
  rw [List.drop_eq_getElem_cons ha, List.drop_eq_getElem_cons hb, List.getD_eq_getElem?_getD, List.getElem?_eq_getElem ha, List.getD_eq_getElem?_getD, List.getElem?_eq_getElem hb]
  rfl
theorem cmp_end (a b : List (List UInt8)) (i : Nat) (h : ¬ (i < a.length ∧ i < b.length)) (ha : i ≤ a.length) (hb : i ≤ b.length) :
    cmpF (a.drop i) (b.drop i) = if a.length < b.length then -1 else if b.length < a.length then 1 else 0 := by
  by_cases h1 : i < a.length
  · have h2 : b.drop i = [] := List.drop_of_length_le (by omega)
    rw [h2, List.drop_eq_getElem_cons h1, cmpF, if_neg (by omega), if_pos (by omega)]
  · have h2 : a.drop i = [] := List.drop_of_length_le (by omega)
    by_cases h3 : i < b.length
    · rw [h2, List.drop_eq_getElem_cons h3, cmpF, if_pos (by omega)]
    · have h4 : b.drop i = [] := List.drop_of_length_le (by omega)
      rw [h2, h4, cmpF, if_neg (by omega), if_neg (by omega)]
set_option maxHeartbeats 8000000 in
theorem rcompare (x y : List UInt8) (w : World) (hx : x.length ≤ 800000) (hy : y.length ≤ 800000) : Calls Try.prog 14 #[.string (tx x), .string (tx y)] w fun e w' => e = .returned (.int .i64 (cmpF (partsF x) (partsF y))) ∧ Only (fun _ => False) w w' := by
  have H1 := Lib.hid (rparts (tx x) w (by rw [tx_size]; omega))
  have H2 := Lib.hid fun w1 => rparts (tx y) w1 (by rw [tx_size]; omega)
  rw [tx_list] at H1 H2
  have hp := parts_few x
  have hq := parts_few y
  generalize partsF x = a at H1 hp ⊢
  generalize partsF y = b at H2 hq ⊢
  obtain ⟨n, hn⟩ : ∃ n, a.length = n := ⟨_, rfl⟩
  obtain ⟨m, hm⟩ : ∃ m, b.length = m := ⟨_, rfl⟩
  have HN := Lib.hid hn
  have HM := Lib.hid hm
  have hn2 : n ≤ 800001 := by omega
  have hm2 : m ≤ 800001 := by omega
  clear hp hq hx hy
  go_enter Try.func14, Try.ntmps14
  go_wp2_with fail
  refine H1.out.mono ?_
  rintro e w1 ⟨A, c, rfl, h1⟩
  have HA := Lib.hid h1
  rw [hn] at HA ⊢
  clear h1 H1
  go_wp2_with fail
  refine (H2.out w1).mono ?_
  rintro e w2 ⟨A2, c2, rfl, h2⟩
  have HO := Lib.hid (HA.out.2.1.trans h2.2.1)
  have HSA := Lib.hid (HA.out.1.only h2.2.1 fun _ _ f => f).see
  have HSB := Lib.hid h2.1.see
  rw [hm]
  clear h2 H2 HA hn hm
  go_wp2_with fail
  go_loopg [7] (n + m) (fun gk u wx => ∃ i : Nat, u = .int .i64 i ∧ i ≤ n ∧ i ≤ m ∧ i + gk = n + m ∧ (∃ q, wx = w2.drewN q) ∧ Hid (cmpF a b = cmpF (a.drop i) (b.drop i)))
  case atStart => exact ⟨0, rfl, by omega, by omega, by omega, ⟨0, rfl⟩, Lib.hid rfl⟩
  case round =>
    obtain ⟨i, rfl, hin, him, hi, ⟨q, rfl⟩, HC⟩ := hrel
    by_cases hlt : i < n ∧ i < m
    · obtain ⟨l1, l2⟩ := hlt
      have l3 : (i : Int) < (n : Int) := by omega
      have l4 : (i : Int) < (m : Int) := by omega
      obtain ⟨b1, o1, rfl, _, d1⟩ := HSA.out i _ (strs_at a i (by rw [HN.out]; exact l1))
      obtain ⟨b2, o2, rfl, _, d2⟩ := HSB.out i _ (strs_at b i (by rw [HM.out]; exact l2))
      have HS := Lib.hid (cmp_step a b i (by rw [HN.out]; exact l1) (by rw [HM.out]; exact l2))
      generalize a.getD i [] = p at d1 HS
      generalize b.getD i [] = r at d2 HS
      have t1 := tx_toList p
      have t2 := tx_toList r
      by_cases hb1 : Op.bytesLess p r = true
      · have HE : Hid (cmpF a b = -1) := Lib.hid (by rw [HC.out, HS.out, if_pos hb1])
        clear HS HC
        go_upto_region 6 with fail
        go_quiet (fail)
        go_wp2
        go_ret
        rw [HE.out]
        exact ⟨rfl, (HO.out.drewN q).drewN nq⟩
      · have hb2 : Op.bytesLess p r = false := by simpa using hb1
        by_cases hpr : p = r
        · subst hpr
          have HE : Hid (cmpF a b = cmpF (a.drop (i + 1)) (b.drop (i + 1))) := Lib.hid (by rw [HC.out, HS.out, if_neg hb1, if_pos rfl])
          clear HS HC hb1
          go_upto_region 6 with fail
          go_quiet (fail)
          go_upto_region 8 with fail
          go_quiet (fail)
          go_wp2_with fail
          go_roundg (gk - 1)
          case measure => omega
          case rel => exact ⟨i + 1, by go_num, by omega, by omega, by omega, ⟨_, rfl⟩, HE⟩
        · have HE : Hid (cmpF a b = 1) := Lib.hid (by rw [HC.out, HS.out, if_neg hb1, if_neg hpr])
          have hpr2 : (p == r) = false := by rw [beq_eq_false_iff_ne]; exact hpr
          clear HS HC hb1
          go_upto_region 6 with fail
          go_quiet (fail)
          go_upto_region 8 with fail
          go_quiet (fail)
          go_wp2
          go_ret
          rw [HE.out]
          exact ⟨rfl, ((HO.out.drewN q).drewN _).drewN _⟩
    · have HS := Lib.hid (cmp_end a b i (by rw [HN.out, HM.out]; exact hlt) (by rw [HN.out]; exact hin) (by rw [HM.out]; exact him))
      have hnot : ¬ ((i : Int) < (n : Int) ∧ (i : Int) < (m : Int)) := fun e => hlt ⟨by omega, by omega⟩
      by_cases g1 : n < m
      · have HE : Hid (cmpF a b = -1) := Lib.hid (by rw [HC.out, HS.out, HN.out, HM.out, if_pos g1])
        have g2 : (n : Int) < (m : Int) := by omega
        have g3 : ¬ (i : Int) < (n : Int) := by omega
        clear HS HC hnot
        go_wp2
        go_ret
        rw [HE.out]
        exact ⟨rfl, HO.out.drewN q⟩
      · by_cases g2 : m < n
        · have HE : Hid (cmpF a b = 1) := Lib.hid (by rw [HC.out, HS.out, HN.out, HM.out, if_neg g1, if_pos g2])
          have g3 : ¬ (n : Int) < (m : Int) := by omega
          have g4 : (m : Int) < (n : Int) := by omega
          have g5 : ¬ (i : Int) < (m : Int) := by omega
          have g6 : (i : Int) < (n : Int) := by omega
          clear HS HC hnot
          go_wp2
          go_ret
          rw [HE.out]
          exact ⟨rfl, HO.out.drewN q⟩
        · have HE : Hid (cmpF a b = 0) := Lib.hid (by rw [HC.out, HS.out, HN.out, HM.out, if_neg g1, if_neg g2])
          have g3 : ¬ (n : Int) < (m : Int) := by omega
          have g4 : ¬ (m : Int) < (n : Int) := by omega
          have g5 : ¬ (i : Int) < (n : Int) := by omega
          clear HS HC hnot
          go_wp2
          go_ret
          rw [HE.out]
          exact ⟨rfl, HO.out.drewN q⟩

theorem under_step (a b : List (List UInt8)) (i : Nat) (ha : i < a.length) (hb : i < b.length) (h : a.take i = b.take i) : a.take (i + 1) = b.take (i + 1) ↔ a.getD i [] = b.getD i [] := by
  rw [getD_take_snoc [] a i ha, getD_take_snoc [] b i hb, h]
  constructor
  · intro e
    have := List.append_cancel_left e
    simpa using this
  · intro e
    rw [e]
theorem under_no (a b : List (List UInt8)) (i : Nat) (ha : b.length < a.length) (hb : i < b.length) (h : a.take i = b.take i) (hne : ¬ a.getD i [] = b.getD i []) : underF a b = false := by
  unfold underF
  rw [decide_eq_true ha, Bool.true_and, beq_eq_false_iff_ne]
  intro e
  have e2 : a.take (i + 1) = b.take (i + 1) := by
    have := congrArg (List.take (i + 1)) e
    rw [List.take_take, Nat.min_eq_left (by omega)] at this
    exact this
  exact hne ((under_step a b i (by omega) hb h).1 e2)
end Go.Proofs.Ytmdfkchgklphlaa

/- Layer 13, the document: code points, paths that may be, the path of a name. -/
namespace Go.Proofs.Ytmdfkchgklphlaa
open Go.RowKit

end Go.Proofs.Ytmdfkchgklphlaa

/- Layer 13, the document: paths that may be, the path of a name. -/
namespace Go.Proofs.Ytmdfkchgklphlaa
open Go.RowKit

theorem right_no {l : List UInt8} (h : decide (1 ≤ l.length) = false ∨ decide (l.length ≤ 1024) = false ∨ bytesOk l l.length 0 = false ∨ decide ((partsF l).length ≤ 32) = false ∨ (partsF l).all partOk = false) : rightF l = false := by
  unfold rightF
  rcases h with h | h | h | h | h <;> rw [h] <;> simp
theorem all_take (q : List UInt8 → Bool) (ps : List (List UInt8)) (i : Nat) (h : i < ps.length) : (ps.take (i + 1)).all q = ((ps.take i).all q && q (ps.getD i [])) := by
  rw [getD_take_snoc [] ps i h, List.all_append]
  simp
theorem filter_take (q : List UInt8 → Bool) (ps : List (List UInt8)) (i : Nat) (h : i < ps.length) : (ps.take (i + 1)).filter q = (ps.take i).filter q ++ if q (ps.getD i []) = true then [ps.getD i []] else [] := by
  rw [getD_take_snoc [] ps i h, List.filter_append]
  congr 1
  rw [List.filter_cons]
  split <;> rfl
theorem filter_le (q : List UInt8 → Bool) (ps : List (List UInt8)) (i : Nat) : ((ps.take i).filter q).length ≤ i := by
  have h1 := List.length_filter_le q (ps.take i)
  rw [List.length_take] at h1
  omega
end Go.Proofs.Ytmdfkchgklphlaa
