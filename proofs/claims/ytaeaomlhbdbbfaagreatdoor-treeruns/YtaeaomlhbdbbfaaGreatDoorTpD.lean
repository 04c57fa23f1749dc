/- Layer 15, the landed program: a tree of the call's own; where what is under a path stands; the paths that a path's parts begin with. -/
import Derived.Test.YtaeaomlhbdbbfaaGreatDoorTpA
import Derived.Test.YtaeaomlhbdbbfaaGreatDoorTpC
namespace Go.Proofs.YtaeaomlhbdbbfaaGreatDoor
open Go.RowKit

/-- A tree of the call's own: its struct, and the row that it keeps. -/
structure TrAt (w : World) (g : Nat) (A : Option Addr) (c : Nat) (ps : List Nd) : Prop where
  hold : Is w g 54 [.slice A ps.length c]
  row : Rs 29 5 w A ps.length c (nds ps)
  far : ¬ Lies A g
theorem TrAt.only {w w' : World} {g : Nat} {A : Option Addr} {c : Nat} {ps : List Nd} {X : Nat → Prop} (h : TrAt w g A c ps) (k : Only X w w') (h1 : ¬ X g) (h2 : ∀ j, Lies A j → ¬ X j) : TrAt w' g A c ps := ⟨h.hold.only k h1, h.row.only k h2, h.far⟩
theorem TrAt.new {w w' : World} {g : Nat} {A : Option Addr} {c : Nat} {ps : List Nd} (h : TrAt w g A c ps) (k : Only (fun _ => False) w w') : TrAt w' g A c ps := h.only k (fun f => f) fun _ _ f => f
/-- Nodes whose paths aren't too long. -/
def ShortP (ps : List Nd) : Prop := ∀ x ∈ ps, x.path.length ≤ 2000
set_option maxRecDepth 20000 in
set_option maxHeartbeats 4000000 in
theorem prange (g : Nat) (A : Option Addr) (c : Nat) (ps : List Nd) (p : List UInt8) (w : World) (h : TrAt w g A c ps) (hb : ps.length ≤ 10000) (hs : Srt ps) (hin : ShortP ps) (hp : p.length ≤ 100000) : Calls Tryz.prog 33 #[.pointer (some ⟨g, 0, none⟩), .string (tx p)] w fun e w' => e = .returned (.tuple #[.int .i64 (loT ps p), .int .i64 (hiT ps p)]) ∧ Only (fun _ => False) w w' := by
  obtain ⟨n, hn⟩ : ∃ n, ps.length = n := ⟨_, rfl⟩
  have HT := Lib.hid h
  have HF := Lib.hid (pfind A n c _ ps p w h.row.see hn (by omega) hs (fun x hx => by have := hin x hx; omega) hp)
  have HU : Hid (∀ i, i < n → ∀ w1, Calls Tryz.prog 54 #[.string (tx (ps.getD i nd0).path), .string (tx p)] w1 fun e w' => e = .returned (.bool (underF (partsF (ps.getD i nd0).path) (partsF p))) ∧ Only (fun _ => False) w1 w') := Lib.hid fun i hi w1 => punder (ps.getD i nd0).path p w1 (by have := hin _ (getD_mem nd0 ps i (by omega)); omega) hp
  have HN := Lib.hid hn
  have hlo : loT ps p ≤ n := by rw [← hn]; exact lo_le ps p
  have HLD : Hid (loT ps p = if thereT ps p = true then posT ps p + 1 else posT ps p) := Lib.hid rfl
  have HSP : Hid (∀ j, loT ps p ≤ j → j ≤ n → (∀ i, loT ps p ≤ i → i < j → underF (partsF (ps.getD i nd0).path) (partsF p) = true) → (j < n → ¬ underF (partsF (ps.getD j nd0).path) (partsF p) = true) → hiT ps p = j) := Lib.hid fun j h1 h2 h3 h4 => by
    have := span_of p (ps.drop (loT ps p)) (j - loT ps p) (by rw [List.length_drop, hn]; omega) (fun i hi => by rw [ndD_drop]; exact h3 _ (by omega) (by omega)) fun hl => by
      rw [ndD_drop, show loT ps p + (j - loT ps p) = j by omega]
      exact h4 (by rw [List.length_drop, hn] at hl; omega)
    unfold hiT
    omega
  have d0 : w.cell? ⟨g, 0, none⟩ = some (.slice A n c) := by rw [← hn]; exact h.hold.cell 0 rfl
  have hle : posT ps p ≤ n := by rw [← hn]; exact pos_le p ps
  have hpl : posT ps p + 1 ≤ n ∨ thereT ps p = false := by
    cases ht : thereT ps p with
    | true => exact .inl (by rw [← hn]; exact ((there_iff ps p).1 ht).1)
    | false => exact .inr rfl
  rw [hn] at hb
  clear h hs hin hn
  generalize loT ps p = lo at *
  generalize hiT ps p = hi at *
  generalize posT ps p = po at *
  generalize thereT ps p = th at *
  cases th with
  | true =>
    have hlp : (po : Int) + 1 = (lo : Int) := by
      have : lo = po + 1 := HLD.out
      omega
    clear hpl HLD
    go_enter Tryz.func33, Tryz.ntmps33
    go_wp2_with (go_at_call 31; refine HF.out.mono ?_; rintro e w1 ⟨rfl, o1⟩; have HO := Lib.hid o1; clear o1)
    go_loopg [8] n (fun gk u wx => ∃ (j : Nat), u = .int .i64 j ∧ lo ≤ j ∧ j + gk ≤ n + lo ∧ j ≤ n ∧ n ≤ j + gk ∧ Hid (Only (fun _ => False) w wx) ∧ Hid (∀ i, lo ≤ i → i < j → underF (partsF (ps.getD i nd0).path) (partsF p) = true))
    case atStart => exact ⟨lo, rfl, Nat.le_refl _, by omega, by omega, by omega, HO, Lib.hid fun i h1 h2 => by omega⟩
    case round =>
      obtain ⟨j, rfl, h1, h2, h3, h4, HW, HJ⟩ := hrel
      have dr := only_cell d0 HW.out
      by_cases hlt : j < n
      · obtain ⟨b, o, rfl, e0, _, _, _, _⟩ := see_nd (HT.out.row.see.new HW.out) (i := j) (by rw [HN.out]; exact hlt)
        have HUU := Lib.hid (HU.out j hlt)
        cases hu : underF (partsF (ps.getD j nd0).path) (partsF p) with
        | true =>
          rw [hu] at HUU
          have HJ2 : Hid (∀ i, lo ≤ i → i < j + 1 → underF (partsF (ps.getD i nd0).path) (partsF p) = true) := Lib.hid fun i g1 g2 => by
            rcases Nat.lt_or_ge i j with q | q
            · exact HJ.out i g1 q
            · obtain rfl : i = j := by omega
              exact hu
          clear hu HJ
          generalize (ps.getD j nd0).path = q at e0 HUU
          go_wp2_with (go_at_call 54; refine (HUU.out _).mono ?_; rintro e w2 ⟨rfl, o2⟩; have HO2 := Lib.hid (HW.out.trans o2); clear o2)
          go_roundg (gk - 1)
          case measure => omega
          case rel => exact ⟨j + 1, by go_num, by omega, by omega, by omega, by omega, HO2, HJ2⟩
        | false =>
          rw [hu] at HUU
          have HI : Hid (hi = j) := Lib.hid (HSP.out j h1 h3 HJ.out fun _ => by rw [hu]; decide)
          clear hu HJ
          generalize (ps.getD j nd0).path = q at e0 HUU
          go_wp2_with (go_at_call 54; refine (HUU.out _).mono ?_; rintro e w2 ⟨rfl, o2⟩; have HO2 := Lib.hid (HW.out.trans o2); clear o2)
          go_ret2
          rw [HI.out]
          exact ⟨rfl, HO2.out⟩
      · obtain rfl : j = n := by omega
        have HI : Hid (hi = j) := Lib.hid (HSP.out j h1 h3 HJ.out fun g => by omega)
        clear HJ
        go_wp2
        go_ret2
        rw [HI.out]
        exact ⟨rfl, HW.out⟩
  | false =>
    obtain rfl : lo = po := HLD.out
    clear hpl HLD
    go_enter Tryz.func33, Tryz.ntmps33
    go_wp2_with (go_at_call 31; refine HF.out.mono ?_; rintro e w1 ⟨rfl, o1⟩; have HO := Lib.hid o1; clear o1)
    go_loopg [8] n (fun gk u wx => ∃ (j : Nat), u = .int .i64 j ∧ lo ≤ j ∧ j + gk ≤ n + lo ∧ j ≤ n ∧ n ≤ j + gk ∧ Hid (Only (fun _ => False) w wx) ∧ Hid (∀ i, lo ≤ i → i < j → underF (partsF (ps.getD i nd0).path) (partsF p) = true))
    case atStart => exact ⟨lo, rfl, Nat.le_refl _, by omega, by omega, by omega, HO, Lib.hid fun i h1 h2 => by omega⟩
    case round =>
      obtain ⟨j, rfl, h1, h2, h3, h4, HW, HJ⟩ := hrel
      have dr := only_cell d0 HW.out
      by_cases hlt : j < n
      · obtain ⟨b, o, rfl, e0, _, _, _, _⟩ := see_nd (HT.out.row.see.new HW.out) (i := j) (by rw [HN.out]; exact hlt)
        have HUU := Lib.hid (HU.out j hlt)
        cases hu : underF (partsF (ps.getD j nd0).path) (partsF p) with
        | true =>
          rw [hu] at HUU
          have HJ2 : Hid (∀ i, lo ≤ i → i < j + 1 → underF (partsF (ps.getD i nd0).path) (partsF p) = true) := Lib.hid fun i g1 g2 => by
            rcases Nat.lt_or_ge i j with q | q
            · exact HJ.out i g1 q
            · obtain rfl : i = j := by omega
              exact hu
          clear hu HJ
          generalize (ps.getD j nd0).path = q at e0 HUU
          go_wp2_with (go_at_call 54; refine (HUU.out _).mono ?_; rintro e w2 ⟨rfl, o2⟩; have HO2 := Lib.hid (HW.out.trans o2); clear o2)
          go_roundg (gk - 1)
          case measure => omega
          case rel => exact ⟨j + 1, by go_num, by omega, by omega, by omega, by omega, HO2, HJ2⟩
        | false =>
          rw [hu] at HUU
          have HI : Hid (hi = j) := Lib.hid (HSP.out j h1 h3 HJ.out fun _ => by rw [hu]; decide)
          clear hu HJ
          generalize (ps.getD j nd0).path = q at e0 HUU
          go_wp2_with (go_at_call 54; refine (HUU.out _).mono ?_; rintro e w2 ⟨rfl, o2⟩; have HO2 := Lib.hid (HW.out.trans o2); clear o2)
          go_ret2
          rw [HI.out]
          exact ⟨rfl, HO2.out⟩
      · obtain rfl : j = n := by omega
        have HI : Hid (hi = j) := Lib.hid (HSP.out j h1 h3 HJ.out fun g => by omega)
        clear HJ
        go_wp2
        go_ret2
        rw [HI.out]
        exact ⟨rfl, HW.out⟩
theorem dir_join {L : List (List UInt8)} (hL : ∀ x ∈ L, x ≠ []) {i : Nat} (hi : i < L.length) : dirF (joinF (L.take i)) (L.getD i []) = joinF (L.take (i + 1)) := by
  rw [getD_take_snoc [] L i hi, join_snoc]
  unfold dirF
  by_cases h0 : L.take i = []
  · rw [h0]; rfl
  · have hne : joinF (L.take i) ≠ [] := by
      obtain ⟨x, r, e⟩ := List.exists_cons_of_ne_nil h0
      have hx : x ∈ L := List.mem_of_mem_take (by rw [e]; exact List.mem_cons_self)
      have := hL x hx
      rw [e]
      cases r with
      | nil => exact this
      | cons y s =>
        show x ++ 47 :: joinF (y :: s) ≠ []
        intro hh
        exact this (List.append_eq_nil_iff.1 hh).1
    rw [if_neg hne, if_neg h0]
theorem begs_at {p : List UInt8} {i : Nat} (hi : i < (partsF p).length) : (begs p).getD i [] = joinF ((partsF p).take (i + 1)) := by
  unfold begs begL
  rw [List.getD_eq_getElem?_getD, List.getElem?_map, List.getElem?_range hi]
  rfl
theorem begs_length (p : List UInt8) : (begs p).length = (partsF p).length := by
  unfold begs begL
  rw [List.length_map, List.length_range]
theorem right_parts_ne {p : List UInt8} (h : rightF p = true) : ∀ x ∈ partsF p, x ≠ [] := fun x hx => by
  obtain ⟨h1, h2, _⟩ := right_parts h
  rw [parts_ne h1] at hx
  exact part_ne (List.all_eq_true.1 h2 x hx)
theorem SMade.later {w wx wy : World} {A : Option Addr} {n c : Nat} {l : List (List UInt8)} (h : SMade w A n c l wx) (o : Only (fun _ => False) wx wy) : SMade w A n c l wy := ⟨h.1.only o fun _ _ f => f, h.2.1.trans o, h.2.2⟩
theorem SMade.from {w0 w wx : World} {A : Option Addr} {n c : Nat} {l : List (List UInt8)} (h : SMade w A n c l wx) (o : Only (fun _ => False) w0 w) : SMade w0 A n c l wx := ⟨h.1, o.trans h.2.1, fun j hj => Nat.le_trans o.size (h.2.2 j hj)⟩
set_option maxRecDepth 20000 in
set_option maxHeartbeats 4000000 in
theorem pbegins (p : List UInt8) (w : World) (hg : Gr w) (hp : rightF p = true) (hl : p.length ≤ 2000) : Calls Tryz.prog 44 #[.string (tx p)] w (StrsP w (begs p)) := by
  have HP := Lib.hid (pparts p w hg (by omega))
  have HNE := Lib.hid (right_parts_ne hp)
  obtain ⟨n, hn⟩ : ∃ n, (partsF p).length = n := ⟨_, rfl⟩
  have hfew := parts_few p
  have HB := Lib.hid (show (begs p).length = n from by rw [begs_length, hn])
  have HA : Hid (∀ i, i < n → (begs p).take (i + 1) = (begs p).take i ++ [joinF ((partsF p).take (i + 1))]) := Lib.hid fun i hi => by
    rw [getD_take_snoc [] (begs p) i (by rw [begs_length, hn]; exact hi), begs_at (by rw [hn]; exact hi)]
  have HD : Hid (∀ i, i < n → ∀ w1, Calls Tryz.prog 61 #[.string (tx (joinF ((partsF p).take i))), .string (tx ((partsF p).getD i []))] w1 fun e w' => e = .returned (.string (tx (joinF ((partsF p).take (i + 1))))) ∧ Only (fun _ => False) w1 w') := Lib.hid fun i hi w1 => by
    rw [← dir_join HNE.out (by rw [hn]; exact hi)]
    have hj : (joinF (partsF p)).length = p.length := by
      rw [parts_ne (right_ne hp), join_split]
    refine pdir _ _ w1 (by have := join_mono (partsF p) i; omega) ?_
    have hm := getD_mem [] (partsF p) i (by rw [hn]; exact hi)
    rw [parts_ne (right_ne hp)] at hm ⊢
    have h2 := List.all_eq_true.1 (right_parts hp).2.1 _ hm
    have h3 : ((splitF p).getD i []).length ≤ 255 := by
      generalize (splitF p).getD i [] = y at h2 ⊢
      unfold partOk at h2
      simp at h2
      omega
    omega
  have HT : Hid ((begs p).take n = begs p) := Lib.hid (List.take_of_length_le (by rw [HB.out]; exact Nat.le_refl _))
  have HN := Lib.hid hn
  rw [hn] at hfew
  clear hg hp HNE hn
  generalize begs p = bs at *
  generalize partsF p = L at *
  go_enter Tryz.func44, Tryz.ntmps44
  go_wp2_with fail
  refine HP.out.mono ?_
  rintro e w1 ⟨A0, c0, rfl, hm0⟩
  have HS0 := Lib.hid hm0.1.see
  have HO0 := Lib.hid hm0.2.1
  rw [HN.out]
  clear hm0 HP
  go_wp2_with fail
  go_loopg [3, 4, 10] n (fun gk u v x wx => ∃ (i : Nat) (A1 : Option Addr) (c1 : Nat), u = .slice A1 i c1 ∧ v = .string (tx (joinF (L.take i))) ∧ x = .int .i64 i ∧ i + gk = n ∧ Hid (SMade w1 A1 i c1 (bs.take i) wx))
  case atStart => exact ⟨0, none, 0, rfl, rfl, rfl, by omega, Lib.hid (SMade.nil w1)⟩
  case round =>
    obtain ⟨i, A1, c1, rfl, rfl, rfl, hi, HM⟩ := hrel
    by_cases hlt : i < n
    · have l4 : (i : Int) < (n : Int) := by omega
      obtain ⟨b1, o1, rfl, _, d1⟩ := (HS0.out.new HM.out.2.1) i _ (strs_at L i (by rw [HN.out]; exact hlt))
      have HDI := Lib.hid (HD.out i hlt)
      have HAI := Lib.hid (HA.out i hlt)
      generalize L.getD i [] = pt at d1 HDI
      generalize joinF (L.take i) = at0 at HDI ⊢
      obtain ⟨at1, hat1⟩ : ∃ at1, joinF (L.take (i + 1)) = at1 := ⟨_, rfl⟩
      rw [hat1] at HDI HAI
      have HA1 := Lib.hid hat1
      clear hat1
      go_wp2_with (first
        | (go_at_call 61; refine (HDI.out _).mono ?_; rintro e w2 ⟨rfl, o2⟩; have HM1 := Lib.hid (HM.out.later o2); clear o2)
        | (at_builtin
           refine wpList_append_rs rfl (.tmp 17) (.tmp 19) 73 73 9 rfl Tryz.underlying73 infoStr zeroStr A1 i c1 (strs (bs.take i)) [.string (tx at1)] (.slice (some ⟨w2.heap.size, 0, none⟩) 1 1) (by rfl) (by rfl) (HM1.out.1.alloc _) (Src.oneStr Tryz.underlying73 w2 (tx at1) 1 9) (by omega) (by omega) ?_
           intro A2 c2 w3 hrow2 honly2 hlies2
           have HM2 : Hid (SMade w1 A2 (i + 1) c2 (bs.take (i + 1)) w3) := Lib.hid (HM1.out.append (by rw [HAI.out, ← strs_snoc]; exact hrow2) honly2 hlies2)
           clear hrow2 honly2 hlies2))
      go_roundg (gk - 1)
      case measure => omega
      case rel => exact ⟨i + 1, A2, c2, by go_num, by rw [HA1.out], by go_num, by omega, HM2⟩
    · obtain rfl : i = n := by omega
      go_wp2
      go_ret
      rw [HT.out] at HM
      exact ⟨A1, c1, by rw [HB.out]; rfl, by rw [HB.out]; exact HM.out.from HO0.out⟩
end Go.Proofs.YtaeaomlhbdbbfaaGreatDoor
