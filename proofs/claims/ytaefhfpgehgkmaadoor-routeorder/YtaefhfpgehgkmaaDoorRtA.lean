/- Layer 13, the document: parts of a text. -/
import Derived.Test.YtaefhfpgehgkmaaDoorRtM
namespace Go.Proofs.YtaefhfpgehgkmaaDoor
open Go.RowKit

theorem Src.oneStr {P : Program} {t e : TypeId} (hk : P.underlying t = some (.slice e)) (w : World) (s : ByteArray) (c : Nat) (t' : TypeId) : Src P 1 t (.slice (some ⟨w.heap.size, 0, none⟩) 1 c) 1 [.string s] (w.alloc (.cells #[.string s] t')) :=
  Src.ofSlice _ hk _ 1 c _ rfl (cell_one_new w _ t') (by simp; rfl)
theorem infoStr : (Tryd.prog.info? 9).map (fun i => (i.zero, i.size, i.bytes)) = some (some (.string ByteArray.empty), 1, 16) := by kernel_rfl
theorem zeroStr : (Value.string ByteArray.empty).cells.size = 1 := by simp [Value.cells]
/-- A row of texts of the call's own, laid since w. -/
def SMade (w : World) (A : Option Addr) (n c : Nat) (ps : List (List UInt8)) (wx : World) : Prop := Rs 9 1 wx A n c (strs ps) ∧ Only (fun _ => False) w wx ∧ ∀ j, Lies A j → w.heap.size ≤ j
theorem SMade.nil (w : World) : SMade w none 0 0 [] w := ⟨Rs.nil _ 1 w, Only.refl _ w, by rintro j ⟨ad, e, _⟩; cases e⟩
theorem SMade.append {w wx wy : World} {A A' : Option Addr} {n c n' c' : Nat} {l l' : List (List UInt8)} {o : Obj} (h : SMade w A n c l wx) (hr : Rs 9 1 wy A' n' c' (strs l')) (ho : Only (Lies A) (wx.alloc o) wy) (ha : A' = A ∨ A' = some ⟨(wx.alloc o).heap.size, 0, none⟩) : SMade w A' n' c' l' wy := by
  refine ⟨hr, (h.2.1.alloc o).andThen ho fun j hj => .inr (h.2.2 j hj), fun j hj => ?_⟩
  rcases ha with e | e
  · exact h.2.2 j (e ▸ hj)
  · obtain ⟨ad, e1, e2⟩ := hj
    rw [e] at e1
    obtain rfl := Option.some.inj e1
    rw [← e2]
    exact (h.2.1.alloc o).size
/-- What is answered: a row of texts. -/
def StrsP (w : World) (ps : List (List UInt8)) (e : Ending) (w' : World) : Prop := ∃ A c, e = .returned (.slice A ps.length c) ∧ SMade w A ps.length c ps w'
theorem byte_is (s : ByteArray) (i : Nat) (h : i < s.size) : s[i]'h = s.data.toList.getD i 0 := by
  have h2 : i < s.data.toList.length := by simpa using h
  rw [List.getD_eq_getElem?_getD, List.getElem?_eq_getElem h2]
  rfl

theorem empty_no {s : ByteArray} (h : ¬ s.data.toList = []) : s.toList.isEmpty = false := by
  rw [ByteArray.toList_eq, List.isEmpty_eq_false_iff]
  exact h
set_option maxHeartbeats 4000000 in
theorem rparts (s : ByteArray) (w : World) (hs : s.size ≤ 900000) : Calls Tryd.prog 15 #[.string s] w (StrsP w (partsF s.data.toList)) := by
  obtain ⟨n, hn⟩ : ∃ n, s.size = n := ⟨_, rfl⟩
  have HN : Hid (s.data.toList.length = n) := Lib.hid hn
  by_cases h0 : s.data.toList = []
  · have e0 : s = ByteArray.empty := by rw [← tx_self s, h0]; rfl
    unfold partsF
    rw [if_pos h0]
    subst e0
    go_enter Tryd.func15, Tryd.ntmps15
    go_wp2
    go_ret
    exact ⟨none, 0, rfl, SMade.nil w⟩
  · have e0 := empty_no h0
    have HP : Hid (partsF s.data.toList = splitF s.data.toList) := Lib.hid (if_neg h0)
    clear h0
    go_enter Tryd.func15, Tryd.ntmps15
    go_wp2_with fail
    go_loopg [3, 4, 5] (n + 1) (fun gk u v x wx => ∃ (A : Option Addr) (c f i : Nat) (done : List (List UInt8)), u = .slice A done.length c ∧ v = .int .i64 f ∧ x = .int .i64 i ∧ i + gk = n + 1 ∧ done.length ≤ i ∧ Hid (PtAt s.data.toList i f done) ∧ Hid (SMade w A done.length c done wx))
    case atStart => exact ⟨none, 0, 0, 0, [], rfl, rfl, rfl, by omega, Nat.le_refl _, Lib.hid (PtAt.start _), Lib.hid (SMade.nil w)⟩
    case round =>
      obtain ⟨A, c, f, i, done, rfl, rfl, rfl, hi, hdl, HT, HM⟩ := hrel
      obtain ⟨m, hm⟩ : ∃ m, done.length = m := ⟨_, rfl⟩
      rw [hm] at HM hdl ⊢
      by_cases hlt : i < n
      · have hle : (i : Int) ≤ (n : Int) := by omega
        have hne : ¬ (i : Int) = (n : Int) := by omega
        have hne2 : ((i : Int) == (n : Int)) = false := by rw [beq_eq_false_iff_ne]; exact hne
        obtain ⟨b, hb⟩ : ∃ b, s[i]'(by omega) = b := ⟨_, rfl⟩
        have eb : s.data.toList.getD i 0 = b := by rw [← hb, byte_is]
        by_cases h47 : b = 47
        · subst h47
          obtain ⟨hfi, hcut⟩ := HT.out.cut (by rw [HN.out]; exact hlt) eb
          have HT2 := Lib.hid hcut
          have hex : s.extract f i = tx ((s.data.toList.take i).drop f) := tx_cut s f i
          generalize (s.data.toList.take i).drop f = P at HT2 hex
          clear hcut eb
          go_wp2_with (at_builtin
                       refine wpList_append_rs rfl (.tmp 24) (.tmp 29) 33 33 9 rfl Tryd.underlying33 infoStr zeroStr A m c (strs done) [.string (tx P)] (.slice (some ⟨wr.heap.size, 0, none⟩) 1 1) (by rfl) (by rfl) (HM.out.1.alloc _) (Src.oneStr Tryd.underlying33 wr (tx P) 1 9) (by omega) (by omega) ?_
                       intro A2 c2 w2 hrow2 honly2 hlies2
                       have HM2 : Hid (SMade w A2 (m + 1) c2 (done ++ [P]) w2) := Lib.hid (HM.out.append (by rw [← strs_snoc]; exact hrow2) honly2 hlies2)
                       clear hrow2 honly2 hlies2)
          go_roundg (gk - 1)
          case measure => omega
          case rel =>
            have e : (done ++ [P]).length = m + 1 := by rw [List.length_append, hm]; rfl
            refine ⟨A2, c2, i + 1, i + 1, done ++ [P], by rw [e], by go_num, by go_num, by omega, by rw [e]; omega, HT2, ?_⟩
            rw [e]
            exact HM2
        · have HT2 := Lib.hid (HT.out.skip (by rw [HN.out]; exact hlt) (by rw [eb]; exact h47))
          have h48 : ¬ (b.toNat : Int) = 47 := fun e => h47 (UInt8.toNat_inj.1 (by show b.toNat = 47; omega))
          have h49 : ((b.toNat : Int) == 47) = false := by rw [beq_eq_false_iff_ne]; exact h48
          clear eb h47
          go_wp2_with fail
          go_roundg (gk - 1)
          case measure => omega
          case rel =>
            refine ⟨A, c, f, i + 1, done, by rw [hm], rfl, by go_num, by omega, by omega, HT2, ?_⟩
            rw [hm]
            exact HM
      · by_cases hin : i = n
        · subst hin
          have h1 := HT.out
          rw [← HN.out] at h1
          obtain ⟨hfi, hcut⟩ := h1.last
          rw [HN.out] at hfi hcut
          have HT2 := Lib.hid hcut
          have hex : s.extract f i = tx ((s.data.toList.take i).drop f) := tx_cut s f i
          generalize (s.data.toList.take i).drop f = P at HT2 hex
          clear hcut h1
          go_wp2_with (at_builtin
                       refine wpList_append_rs rfl (.tmp 24) (.tmp 29) 33 33 9 rfl Tryd.underlying33 infoStr zeroStr A m c (strs done) [.string (tx P)] (.slice (some ⟨wr.heap.size, 0, none⟩) 1 1) (by rfl) (by rfl) (HM.out.1.alloc _) (Src.oneStr Tryd.underlying33 wr (tx P) 1 9) (by omega) (by omega) ?_
                       intro A2 c2 w2 hrow2 honly2 hlies2
                       have HM2 : Hid (SMade w A2 (m + 1) c2 (done ++ [P]) w2) := Lib.hid (HM.out.append (by rw [← strs_snoc]; exact hrow2) honly2 hlies2)
                       clear hrow2 honly2 hlies2)
          go_roundg (gk - 1)
          case measure => omega
          case rel =>
            have e : (done ++ [P]).length = m + 1 := by rw [List.length_append, hm]; rfl
            refine ⟨A2, c2, i + 1, i + 1, done ++ [P], by rw [e], by go_num, by go_num, by omega, by rw [e]; omega, HT2, ?_⟩
            rw [e]
            exact HM2
        · have hin2 : i = n + 1 := by omega
          subst hin2
          have h1 := HT.out
          rw [← HN.out] at h1
          have HE := Lib.hid h1.done
          clear h1
          go_wp2
          go_ret
          rw [HP.out, ← HE.out]
          refine ⟨A, c, by rw [hm]; rfl, ?_⟩
          rw [hm]
          exact HM.out
end Go.Proofs.YtaefhfpgehgkmaaDoor
