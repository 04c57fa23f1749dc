/- Layer 13, the document: paths that may be, the path of a name. -/
import Derived.Test.YtaefhfpgehgkmaaDoorRtD
namespace Go.Proofs.YtaefhfpgehgkmaaDoor
open Go.RowKit

theorem right_no {l : List UInt8} (h : decide (1 ≤ l.length) = false ∨ decide (l.length ≤ 1024) = false ∨ bytesOk l l.length 0 = false ∨ decide ((partsF l).length ≤ 32) = false ∨ (partsF l).all partOk = false) : rightF l = false := by
  unfold rightF
  rcases h with h | h | h | h | h <;> rw [h] <;> simp
theorem all_take (q : List UInt8 → Bool) (ps : List (List UInt8)) (i : Nat) (h : i < ps.length) : (ps.take (i + 1)).all q = ((ps.take i).all q && q (ps.getD i [])) := by
  rw [getD_take_snoc [] ps i h, List.all_append]
  simp
set_option maxRecDepth 20000 in
set_option maxHeartbeats 8000000 in
theorem rright (l : List UInt8) (w : World) (hs : l.length ≤ 800000) : Calls Tryd.prog 10 #[.string (tx l)] w fun e w' => e = .returned (.bool (rightF l)) ∧ Only (fun _ => False) w w' := by
  have hz : (tx l).size = l.length := tx_size l
  obtain ⟨N, hN⟩ : ∃ N, l.length = N := ⟨_, rfl⟩
  have HN := Lib.hid hN
  have HNO : Hid ((decide (1 ≤ l.length) = false ∨ decide (l.length ≤ 1024) = false ∨ bytesOk l l.length 0 = false ∨ decide ((partsF l).length ≤ 32) = false ∨ (partsF l).all partOk = false) → rightF l = false) := Lib.hid right_no
  rw [hN] at hz hs
  clear hN
  go_enter Tryd.func10, Tryd.ntmps10
  by_cases h1 : N < 1
  · have k1 : decide ((N : Int) < 1) = true := decide_eq_true (by omega)
    have HE := Lib.hid (HNO.out (.inl (decide_eq_false (by rw [HN.out]; omega))))
    go_wp2
    go_ret
    rw [HE.out]
    exact ⟨rfl, Only.refl _ _⟩
  · have k1 : decide ((N : Int) < 1) = false := decide_eq_false (by omega)
    by_cases h2 : 1024 < N
    · have k2 : decide (1024 < (N : Int)) = true := decide_eq_true (by omega)
      have HE := Lib.hid (HNO.out (.inr (.inl (decide_eq_false (by rw [HN.out]; omega)))))
      go_wp2
      go_ret
      rw [HE.out]
      exact ⟨rfl, Only.refl _ _⟩
    · have k2 : decide (1024 < (N : Int)) = false := decide_eq_false (by omega)
      have HNX : Hid (∀ (a : Nat) (w1 : World), a < N → Calls Tryd.prog 28 #[.string (tx l), .int .i64 a] w1 fun e w' => e = .returned (.tuple #[.int .i64 (nextF l a).1, .int .i64 (nextF l a).2]) ∧ Only (fun _ => False) w1 w') := Lib.hid fun a w1 h => rnext l a w1 (by rw [HN.out]; exact h) (by rw [HN.out]; omega)
      go_wp2_with fail
      go_loopg [3] N (fun gk u wx => ∃ a : Nat, u = .int .i64 a ∧ N ≤ a + gk ∧ a ≤ N + 4 ∧ Hid (Only (fun _ => False) w wx) ∧ Hid (bytesOk l l.length 0 = bytesOk l gk a))
      case atStart => exact ⟨0, rfl, by omega, by omega, Lib.hid (Only.refl _ _), Lib.hid (by rw [HN.out])⟩
      case round =>
        obtain ⟨a, rfl, hag, ha4, HO, HC⟩ := hrel
        by_cases hlt : a < N
        · obtain ⟨g, rfl⟩ : ∃ g, gk = g + 1 := ⟨gk - 1, by omega⟩
          have hlt2 : (a : Int) < (N : Int) := by omega
          have HX := Lib.hid (HNX.out a wr hlt)
          have HS := Lib.hid (bytesOk_step l g a (by rw [HN.out]; exact hlt))
          have hn4 := (nextF_le l a).1
          obtain ⟨b, hb⟩ : ∃ b, (tx l)[a]'(by omega) = b := ⟨_, rfl⟩
          have eb : l.getD a 0 = b := by rw [← hb, tx_byte]
          rw [eb] at HS
          generalize (nextF l a).1 = code at HX
          generalize (nextF l a).2 = n at HX HS hn4
          clear eb HNX
          go_wp2_with fail
          refine HX.out.mono ?_
          rintro e w2 ⟨rfl, o2⟩
          have HO2 := Lib.hid (HO.out.trans o2)
          clear o2 HX HO
          by_cases c1 : n = 0
          · have q1 : ((n : Int) == 0) = true := by rw [beq_iff_eq]; omega
            have HE := Lib.hid (HNO.out (.inr (.inr (.inl (by rw [HC.out, HS.out, if_pos (.inl c1)])))))
            clear HS HC HNO
            go_wp2
            go_ret
            rw [HE.out]
            exact ⟨rfl, HO2.out⟩
          · have q1 : ((n : Int) == 0) = false := by rw [beq_eq_false_iff_ne]; omega
            by_cases c2 : b.toNat < 32
            · have q2 : decide ((b.toNat : Int) < 32) = true := decide_eq_true (by omega)
              have HE := Lib.hid (HNO.out (.inr (.inr (.inl (by rw [HC.out, HS.out, if_pos (.inr (.inl c2))])))))
              clear HS HC HNO
              go_wp2
              go_ret
              rw [HE.out]
              exact ⟨rfl, HO2.out⟩
            · have q2 : decide ((b.toNat : Int) < 32) = false := decide_eq_false (by omega)
              by_cases c3 : b.toNat = 127
              · have q3 : ((b.toNat : Int) == 127) = true := by rw [beq_iff_eq]; omega
                have HE := Lib.hid (HNO.out (.inr (.inr (.inl (by rw [HC.out, HS.out, if_pos (.inr (.inr (.inl c3)))])))))
                clear HS HC HNO
                go_wp2
                go_ret
                rw [HE.out]
                exact ⟨rfl, HO2.out⟩
              · have q3 : ((b.toNat : Int) == 127) = false := by rw [beq_eq_false_iff_ne]; omega
                by_cases c4 : b.toNat = 92
                · have q4 : ((b.toNat : Int) == 92) = true := by rw [beq_iff_eq]; omega
                  have HE := Lib.hid (HNO.out (.inr (.inr (.inl (by rw [HC.out, HS.out, if_pos (.inr (.inr (.inr c4)))])))))
                  clear HS HC HNO
                  go_wp2
                  go_ret
                  rw [HE.out]
                  exact ⟨rfl, HO2.out⟩
                · have q4 : ((b.toNat : Int) == 92) = false := by rw [beq_eq_false_iff_ne]; omega
                  have HE : Hid (bytesOk l l.length 0 = bytesOk l g (a + n)) := Lib.hid (by rw [HC.out, HS.out, if_neg (by omega)])
                  clear HS HC HNO
                  go_wp2_with fail
                  go_roundg g
                  case measure => omega
                  case rel => exact ⟨a + n, by go_num, by omega, by omega, HO2, HE⟩
        · have hlt2 : ¬ (a : Int) < (N : Int) := by omega
          have HB : Hid (bytesOk l l.length 0 = true) := Lib.hid (by rw [HC.out, bytesOk_end l gk a (by rw [HN.out]; exact hlt)])
          have HP := Lib.hid (rparts (tx l) wr (by rw [tx_size, HN.out]; omega))
          rw [tx_list] at HP
          have HR : Hid (rightF l = (decide ((partsF l).length ≤ 32) && (partsF l).all partOk)) := Lib.hid (by
            unfold rightF
            rw [HB.out, decide_eq_true (by rw [HN.out]; omega), decide_eq_true (by rw [HN.out]; omega)]
            simp)
          have hpf := parts_few l
          rw [HN.out] at hpf
          clear HC HB HNX HNO
          generalize partsF l = ps at HP HR hpf
          go_wp2_with fail
          refine HP.out.mono ?_
          rintro e w2 ⟨A, c, rfl, h2⟩
          have HO2 := Lib.hid (HO.out.trans h2.2.1)
          have HSA := Lib.hid h2.1.see
          clear h2 HP HO
          obtain ⟨n, hn⟩ : ∃ n, ps.length = n := ⟨_, rfl⟩
          have HNP := Lib.hid hn
          rw [hn] at hpf ⊢
          clear hn
          by_cases c1 : 32 < n
          · have q1 : (32 : Int) < (n : Int) := by omega
            have HE : Hid (rightF l = false) := Lib.hid (by rw [HR.out, decide_eq_false (by rw [HNP.out]; omega)]; rfl)
            go_wp2
            go_ret
            rw [HE.out]
            exact ⟨rfl, HO2.out⟩
          · have q1 : ¬ (32 : Int) < (n : Int) := by omega
            have HR2 : Hid (rightF l = ps.all partOk) := Lib.hid (by rw [HR.out, decide_eq_true (by rw [HNP.out]; omega), Bool.true_and])
            clear HR
            go_wp2_with fail
            go_loopg [7] n (fun gk u wx => ∃ i : Nat, u = .int .i64 i ∧ i + gk = n ∧ (∃ q, wx = w2.drewN q) ∧ Hid ((ps.take i).all partOk = true))
            case atStart => exact ⟨0, rfl, by omega, ⟨0, rfl⟩, Lib.hid rfl⟩
            case round =>
              obtain ⟨i, rfl, hi, ⟨q, rfl⟩, HC⟩ := hrel
              by_cases l2 : i < n
              · have l4 : (i : Int) < (n : Int) := by omega
                obtain ⟨b1, o1, rfl, _, d1⟩ := HSA.out i _ (strs_at ps i (by rw [HNP.out]; exact l2))
                have HT := Lib.hid (all_take partOk ps i (by rw [HNP.out]; exact l2))
                have HF : Hid (partOk (ps.getD i []) = false → rightF l = false) := Lib.hid fun hf => by
                  rw [HR2.out, List.all_eq_false]
                  refine ⟨ps.getD i [], ?_, by rw [hf]; decide⟩
                  rw [List.getD_eq_getElem?_getD, List.getElem?_eq_getElem (by rw [HNP.out]; exact l2)]
                  exact List.getElem_mem _
                generalize ps.getD i [] = p at d1 HT HF
                have t1 := tx_toList p
                have HP : Hid (partOk p = !(decide (p = []) || decide (255 < p.length) || decide (p = [46]) || decide (p = [46, 46]))) := Lib.hid rfl
                obtain ⟨z, hz2⟩ : ∃ z, p.length = z := ⟨_, rfl⟩
                have hz3 : (tx p).size = z := by rw [tx_size]; exact hz2
                rw [hz2] at HP
                clear hz2
                by_cases c2 : p = []
                · have q2 : p.isEmpty = true := by rw [c2]; rfl
                  have HE := Lib.hid (HF.out (by rw [HP.out, decide_eq_true c2]; simp))
                  clear c2 HT HF HP
                  go_wp2
                  go_ret
                  rw [HE.out]
                  exact ⟨rfl, HO2.out.drewN q⟩
                · have q2 : p.isEmpty = false := by rw [List.isEmpty_eq_false_iff]; exact c2
                  by_cases c3 : 255 < z
                  · have q3 : decide ((255 : Int) < (z : Int)) = true := decide_eq_true (by omega)
                    have HE := Lib.hid (HF.out (by rw [HP.out, decide_eq_true c3]; simp))
                    clear c2 HT HF HP
                    go_wp2
                    go_ret
                    rw [HE.out]
                    exact ⟨rfl, HO2.out.drewN q⟩
                  · have q3 : decide ((255 : Int) < (z : Int)) = false := decide_eq_false (by omega)
                    by_cases c4 : p = [46]
                    · have q4 : (p == [46]) = true := by rw [beq_iff_eq]; exact c4
                      have HE := Lib.hid (HF.out (by rw [HP.out, decide_eq_true c4]; simp))
                      clear c2 c4 HT HF HP
                      go_wp2
                      go_ret
                      rw [HE.out]
                      exact ⟨rfl, HO2.out.drewN q⟩
                    · have q4 : (p == [46]) = false := by rw [beq_eq_false_iff_ne]; exact c4
                      by_cases c5 : p = [46, 46]
                      · have q5 : (p == [46, 46]) = true := by rw [beq_iff_eq]; exact c5
                        have HE := Lib.hid (HF.out (by rw [HP.out, decide_eq_true c5]; simp))
                        clear c2 c4 c5 HT HF HP
                        go_wp2
                        go_ret
                        rw [HE.out]
                        exact ⟨rfl, HO2.out.drewN q⟩
                      · have q5 : (p == [46, 46]) = false := by rw [beq_eq_false_iff_ne]; exact c5
                        have HE : Hid ((ps.take (i + 1)).all partOk = true) := Lib.hid (by
                          rw [HT.out, HC.out, HP.out, decide_eq_false c2, decide_eq_false c3, decide_eq_false c4, decide_eq_false c5]
                          rfl)
                        clear c2 c4 c5 HT HF HP HC
                        go_wp2_with fail
                        go_roundg (gk - 1)
                        case measure => omega
                        case rel => exact ⟨i + 1, by go_num, by omega, ⟨_, rfl⟩, HE⟩
              · obtain rfl : i = n := by omega
                have HE : Hid (rightF l = true) := Lib.hid (by
                  have h1 := HC.out
                  rw [List.take_of_length_le (by rw [HNP.out]; exact Nat.le_refl _)] at h1
                  rw [HR2.out, h1])
                go_wp2
                go_ret
                rw [HE.out]
                exact ⟨rfl, HO2.out.drewN q⟩

theorem filter_take (q : List UInt8 → Bool) (ps : List (List UInt8)) (i : Nat) (h : i < ps.length) : (ps.take (i + 1)).filter q = (ps.take i).filter q ++ if q (ps.getD i []) = true then [ps.getD i []] else [] := by
  rw [getD_take_snoc [] ps i h, List.filter_append]
  congr 1
  rw [List.filter_cons]
  split <;> rfl
theorem filter_le (q : List UInt8 → Bool) (ps : List (List UInt8)) (i : Nat) : ((ps.take i).filter q).length ≤ i := by
  have h1 := List.length_filter_le q (ps.take i)
  rw [List.length_take] at h1
  omega
set_option maxRecDepth 20000 in
set_option maxHeartbeats 8000000 in
theorem rnormal (l : List UInt8) (w : World) (hs : l.length ≤ 700000) : Calls Tryd.prog 8 #[.string (tx l)] w fun e w' => e = .returned (.tuple #[.string (tx (normF l).1), .bool (normF l).2.1, .int .i64 (normF l).2.2]) ∧ Only (fun _ => False) w w' := by
  have hz : (tx l).size = l.length := tx_size l
  have tl := tx_toList l
  by_cases h0 : l = []
  · subst h0
    have q0 : ([] : List UInt8).isEmpty = true := rfl
    have HE : Hid (normF [] = ([], false, 5)) := Lib.hid (if_pos (.inl rfl))
    go_enter Tryd.func8, Tryd.ntmps8
    go_wp2
    go_ret3
    rw [HE.out]
    exact ⟨rfl, Only.refl _ _⟩
  · have q0 : l.isEmpty = false := by rw [List.isEmpty_eq_false_iff]; exact h0
    obtain ⟨N, hN⟩ : ∃ N, l.length = N := ⟨_, rfl⟩
    have hN0 : 0 < N := by rw [← hN]; exact List.length_pos_iff.2 h0
    have HN := Lib.hid hN
    rw [hN] at hz hs
    clear hN
    obtain ⟨b, hb⟩ : ∃ b, (tx l)[0]'(by omega) = b := ⟨_, rfl⟩
    have eb : l.getD 0 0 = b := by rw [← hb, tx_byte]
    have HP := Lib.hid fun w1 => rparts (tx l) w1 (by rw [tx_size, HN.out]; omega)
    rw [tx_list] at HP
    have hpf := parts_few l
    rw [HN.out] at hpf
    have HPL := Lib.hid (path_len l)
    by_cases h47 : b = 47
    · subst h47
      have HE : Hid (normF l = ([], false, 5)) := Lib.hid (if_pos (.inr eb))
      clear eb h0
      go_enter Tryd.func8, Tryd.ntmps8
      go_wp2
      go_ret3
      rw [HE.out]
      exact ⟨rfl, Only.refl _ _⟩
    · have q1 : ((b.toNat : Int) == 47) = false := by
        rw [beq_eq_false_iff_ne]
        exact fun e => h47 (UInt8.toNat_inj.1 (by show b.toNat = 47; omega))
      have HE : Hid (normF l = if rightF (pathF l) = true then (pathF l, decide (l.getD (l.length - 1) 0 = 47), 0) else ([], false, 5)) := Lib.hid (if_neg (by rw [eb]; exact fun e => e.elim h0 h47))
      have HJ : Hid (pathF l = joinF ((partsF l).filter keepP)) := Lib.hid rfl
      clear eb h0 h47
      generalize partsF l = ps at HP hpf HJ
      go_enter Tryd.func8, Tryd.ntmps8
      go_wp2_with fail
      refine (HP.out _).mono ?_
      rintro e w2 ⟨A, c, rfl, h2⟩
      have HO2 := Lib.hid h2.2.1
      have HSA := Lib.hid h2.1.see
      clear h2 HP
      obtain ⟨n, hn⟩ : ∃ n, ps.length = n := ⟨_, rfl⟩
      have HNP := Lib.hid hn
      rw [hn] at hpf ⊢
      clear hn
      go_wp2_with fail
      go_loopg [6, 7] n (fun gk u v wx => ∃ (i : Nat) (A1 : Option Addr) (c1 : Nat), u = .slice A1 ((ps.take i).filter keepP).length c1 ∧ v = .int .i64 i ∧ i + gk = n ∧ Hid (SMade w2 A1 ((ps.take i).filter keepP).length c1 ((ps.take i).filter keepP) wx))
      case atStart => exact ⟨0, none, 0, rfl, rfl, by omega, Lib.hid (SMade.nil w2)⟩
      case round =>
        obtain ⟨i, A1, c1, rfl, rfl, hi, HM⟩ := hrel
        have hfl := filter_le keepP ps i
        by_cases l2 : i < n
        · have l4 : (i : Int) < (n : Int) := by omega
          obtain ⟨b1, o1, rfl, _, d1⟩ := (HSA.out.new HM.out.2.1) i _ (strs_at ps i (by rw [HNP.out]; exact l2))
          have HT := Lib.hid (filter_take keepP ps i (by rw [HNP.out]; exact l2))
          generalize ps.getD i [] = p at d1 HT
          generalize (ps.take i).filter keepP = done at HM HT hfl ⊢
          obtain ⟨m, hm⟩ : ∃ m, done.length = m := ⟨_, rfl⟩
          rw [hm] at HM hfl ⊢
          have t1 := tx_toList p
          by_cases c2 : p = []
          · have q2 : p.isEmpty = true := by rw [c2]; rfl
            have HF : Hid ((ps.take (i + 1)).filter keepP = done) := Lib.hid (by rw [HT.out, if_neg (by rw [c2]; decide), List.append_nil])
            clear c2 HT
            go_wp2_with fail
            go_roundg (gk - 1)
            case measure => omega
            case rel =>
              refine ⟨i + 1, A1, c1, ?_, by go_num, by omega, ?_⟩
              · rw [HF.out, hm]
              · rw [HF.out, hm]
                exact HM
          · have q2 : p.isEmpty = false := by rw [List.isEmpty_eq_false_iff]; exact c2
            by_cases c3 : p = [46]
            · have q3 : (p == [46]) = true := by rw [beq_iff_eq]; exact c3
              have HF : Hid ((ps.take (i + 1)).filter keepP = done) := Lib.hid (by rw [HT.out, if_neg (by rw [c3]; decide), List.append_nil])
              clear c2 c3 HT
              go_wp2_with fail
              go_roundg (gk - 1)
              case measure => omega
              case rel =>
                refine ⟨i + 1, A1, c1, ?_, by go_num, by omega, ?_⟩
                · rw [HF.out, hm]
                · rw [HF.out, hm]
                  exact HM
            · have q3 : (p == [46]) = false := by rw [beq_eq_false_iff_ne]; exact c3
              have HF : Hid ((ps.take (i + 1)).filter keepP = done ++ [p]) := Lib.hid (by
                rw [HT.out, if_pos]
                unfold keepP
                rw [decide_eq_false c2, decide_eq_false c3]
                rfl)
              clear c2 c3 HT
              go_wp2_with (at_builtin
                           refine wpList_append_rs rfl (.tmp 36) (.tmp 41) 33 33 9 rfl Tryd.underlying33 infoStr zeroStr A1 m c1 (strs done) [.string (tx p)] (.slice (some ⟨wr.heap.size, 0, none⟩) 1 1) (by rfl) (by rfl) (HM.out.1.alloc _) (Src.oneStr Tryd.underlying33 wr (tx p) 1 9) (by omega) (by omega) ?_
                           intro A2 c2 w3 hrow2 honly2 hlies2
                           have HM2 : Hid (SMade w2 A2 (m + 1) c2 (done ++ [p]) w3) := Lib.hid (HM.out.append (by rw [← strs_snoc]; exact hrow2) honly2 hlies2)
                           clear hrow2 honly2 hlies2)
              go_roundg (gk - 1)
              case measure => omega
              case rel =>
                have e : (done ++ [p]).length = m + 1 := by rw [List.length_append, hm]; rfl
                refine ⟨i + 1, A2, c2, ?_, by go_num, by omega, ?_⟩
                · rw [HF.out, e]
                · rw [HF.out, e]
                  exact HM2
        · obtain rfl : i = n := by omega
          have ht : ps.take i = ps := List.take_of_length_le (by rw [HNP.out]; exact Nat.le_refl _)
          rw [ht] at HM hfl ⊢
          have HJ2 : Hid (pathF l = joinF (ps.filter keepP)) := HJ
          have HPL2 := HPL.out
          rw [HJ2.out, HN.out] at HPL2
          have hJl := HPL2
          have HJC := Lib.hid (rjoined A1 (ps.filter keepP).length c1 wr.heap.size (ps.filter keepP) wr HM.out.1.see rfl (by omega) (by omega))
          rw [← HJ2.out] at HJC hJl
          have HRC := Lib.hid fun w1 => rright (pathF l) w1 (by omega)
          have HO3 := Lib.hid (HO2.out.trans HM.out.2.1)
          generalize (ps.filter keepP).length = m at HJC ⊢
          clear HM HJ HJ2 HPL HPL2 HSA HO2 ht
          generalize pathF l = P at HJC HRC HE hJl
          go_wp2_with fail
          refine HJC.out.mono ?_
          rintro e w4 ⟨rfl, o4⟩
          have HO4 := Lib.hid (HO3.out.trans o4)
          clear o4 HJC HO3
          go_wp2_with fail
          refine (HRC.out _).mono ?_
          rintro e w5 ⟨rfl, o5⟩
          have HO5 := Lib.hid (HO4.out.trans o5)
          clear o5 HRC HO4
          cases hR : rightF P with
          | false =>
            have HE2 : Hid (normF l = ([], false, 5)) := Lib.hid (by rw [HE.out, if_neg (by rw [hR]; decide)])
            clear hR HE
            go_wp2
            go_ret3
            rw [HE2.out]
            exact ⟨rfl, HO5.out⟩
          | true =>
            obtain ⟨M, hM⟩ : ∃ M, N - 1 = M := ⟨_, rfl⟩
            obtain ⟨y, hy⟩ : ∃ y, (tx l)[M]'(by omega) = y := ⟨_, rfl⟩
            have ey : l.getD (l.length - 1) 0 = y := by rw [← hy, tx_byte, HN.out, hM]
            have hM2 : (N : Int) - 1 = (M : Int) := by omega
            have HE2 : Hid (normF l = (P, decide (y = 47), 0)) := Lib.hid (by rw [HE.out, if_pos hR, ey])
            have hy2 : ((y.toNat : Int) == 47) = decide (y = 47) := by
              rw [Bool.eq_iff_iff, beq_iff_eq, decide_eq_true_iff]
              constructor
              · exact fun e => UInt8.toNat_inj.1 (by show y.toNat = 47; omega)
              · intro e
                rw [e]
                rfl
            clear hR HE ey
            go_upto_region 13 with fail
            go_quiet (fail)
            go_wp2
            go_ret3
            rw [HE2.out]
            exact ⟨rfl, HO5.out.drewN _⟩
end Go.Proofs.YtaefhfpgehgkmaaDoor
