/- Layer 13, the program: a name's parts without those that say nothing; the path of a name. -/
import Derived.Test.YtaefhfpgehgkmaaDoorRpD
namespace Go.Proofs.YtaefhfpgehgkmaaDoor
open Go.RowKit

theorem wt_app : ∀ a b : List (List UInt8), wtF (a ++ b) = wtF a + wtF b
  | [], b => by simp [wtF]
  | x :: a, b => by
    rw [List.cons_append, wtF, wtF, wt_app a b]
    omega
theorem join_ne {F : List (List UInt8)} (h : ∀ p ∈ F, p ≠ []) (hF : F ≠ []) : joinF F ≠ [] := by
  match F, hF with
  | [x], _ => exact h x List.mem_cons_self
  | x :: y :: r, _ =>
    intro e
    rw [joinF] at e
    simp at e
theorem cut_any (r : List UInt8) : ∃ (p r2 : List UInt8) (mo : Bool), Lib.cut r [47] = (p, r2, mo) ∧ splitF r = p :: (if mo = true then splitF r2 else []) ∧ (mo = true → r2.length < r.length) ∧ p.length ≤ r.length ∧ r2.length ≤ r.length := by
  rcases cut47 r with h | ⟨a, b, rfl, h⟩
  · exact ⟨r, [], false, cut_no r h, by rw [split_one r h]; rfl, (fun h => by cases h), Nat.le_refl _, Nat.zero_le _⟩
  · refine ⟨a, b, true, cut_yes a b h, by rw [split_cut a b h]; rfl, fun _ => ?_, ?_, ?_⟩ <;> rw [List.length_append, List.length_cons] <;> omega
/-- Where the program stands: parts that are done, and what is left. -/
structure LeftSt (l r : List UInt8) (mo : Bool) (done : List (List UInt8)) : Prop where
  more : splitF l = done ++ (if mo = true then splitF r else [])
theorem LeftSt.start (l : List UInt8) : LeftSt l l true [] := ⟨rfl⟩
theorem LeftSt.next {l r p r2 : List UInt8} {mo : Bool} {done : List (List UInt8)} (h : LeftSt l r true done) (e : splitF r = p :: (if mo = true then splitF r2 else [])) : LeftSt l r2 mo (done ++ [p]) := ⟨by
  rw [h.more, if_pos rfl, e, List.append_assoc]
  rfl⟩
theorem LeftSt.len {l r : List UInt8} {mo : Bool} {done : List (List UInt8)} (h : LeftSt l r mo done) : (joinF (done.filter keepP)).length ≤ l.length + 1 := by
  have h1 := join_wt (done.filter keepP)
  have h2 := filter_wt keepP done
  have h3 := split_wt l
  rw [h.more, wt_app] at h3
  omega
theorem LeftSt.finish {l r : List UInt8} {done : List (List UInt8)} (h : LeftSt l r false done) : joinF (done.filter keepP) = pathF l := by
  have e : splitF l = done := by rw [h.more]; simp
  unfold pathF partsF
  by_cases hl : l = []
  · subst hl
    rw [← e]
    rfl
  · rw [if_neg hl, e]
theorem kept_no (done : List (List UInt8)) (p : List UInt8) (h : p = [] ∨ p = [46]) : (done ++ [p]).filter keepP = done.filter keepP := by
  rw [List.filter_append]
  rcases h with rfl | rfl <;> simp [keepP]
theorem kept_yes (done : List (List UInt8)) (p : List UInt8) (h1 : p ≠ []) (h2 : p ≠ [46]) : (done ++ [p]).filter keepP = done.filter keepP ++ [p] := by
  rw [List.filter_append]
  simp [keepP, h1, h2]
theorem kept_join (done : List (List UInt8)) (p : List UInt8) (h1 : p ≠ []) (h2 : p ≠ [46]) : joinF ((done ++ [p]).filter keepP) = if joinF (done.filter keepP) = [] then p else joinF (done.filter keepP) ++ 47 :: p := by
  rw [kept_yes done p h1 h2, join_snoc]
  by_cases e : done.filter keepP = []
  · rw [if_pos e, if_pos (by rw [e]; rfl)]
  · rw [if_neg e, if_neg (join_ne (fun p hp => keep_ne (List.mem_filter.1 hp).2) e)]
theorem cells_app (a b : List UInt8) : Lib.byteCells a ++ Lib.byteCells b = Lib.byteCells (a ++ b) := by simp [Lib.byteCells]
theorem cells_str (p : List UInt8) : Lib.strCells (tx p) = Lib.byteCells p := rfl
theorem cells_len (p : List UInt8) : (Lib.byteCells p).length = p.length := by simp [Lib.byteCells]
theorem builder_drewN {T e : TypeId} {B b : Nat} {bs : List Value} {w : World} (h : Lib.IsBuilder T e B b bs w) : ∀ n, Lib.IsBuilder T e B b bs (w.drewN n)
  | 0 => h
  | n + 1 => by
    rcases builder_drewN (w := w) h n with g | g
    · exact .inl g.drew
    · exact .inr g.drew
/-- The builder of the call's own holds a text. -/
def Bd (w : World) (B : Nat) (X : List UInt8) (wx : World) : Prop := Lib.IsBuilder 50 5 B B (Lib.byteCells X) wx ∧ Below B w wx
theorem Bd.drewN {w wx : World} {B : Nat} {X : List UInt8} (h : Bd w B X wx) (n : Nat) : Bd w B X (wx.drewN n) := ⟨builder_drewN h.1 n, below_drewNv h.2 n⟩
theorem Bd.only {w wx : World} {X : List UInt8} (h : Bd w w.heap.size X wx) : Only (fun _ => False) w wx := only_of_below h.2
theorem Bd.fresh (w : World) : Bd w w.heap.size [] (w.alloc (.cells #[.pointer none, .slice none 0 0] 50)) := ⟨Lib.fresh_isBuilder _ _ w, (Below.refl _ w).alloc (Nat.le_refl _) _⟩
theorem Bd.byte {w wx : World} {X : List UInt8} (h : Bd w w.heap.size X wx) (hl : X.length ≤ 300000) (c : UInt8) : Calls Tryd.prog 35 #[.pointer (some ⟨w.heap.size, 0, none⟩), .int .u8 c.toNat] wx fun e w' => e = .returned .nilIface ∧ Bd w w.heap.size (X ++ [c]) w' := by
  refine (Tryd.Builder_WriteByte _ _ _ c.toNat wx h.1 (by rw [cells_len]; omega) h.2.size).mono ?_
  rintro e w' ⟨rfl, h1, h2⟩
  refine ⟨rfl, .inr ?_, h.2.trans h2⟩
  rw [← cells_app]
  exact h1
theorem Bd.text {w wx : World} {X : List UInt8} (h : Bd w w.heap.size X wx) (p : List UInt8) (hl : X.length + p.length ≤ 300000) : Calls Tryd.prog 36 #[.pointer (some ⟨w.heap.size, 0, none⟩), .string (tx p)] wx fun e w' => e = .returned (.tuple #[.int .i64 p.length, .nilIface]) ∧ Bd w w.heap.size (X ++ p) w' := by
  refine (Tryd.Builder_WriteString _ _ _ (tx p) wx h.1 (by rw [cells_len, tx_size]; omega) h.2.size).mono ?_
  rintro e w' ⟨rfl, h1, h2⟩
  refine ⟨by rw [tx_size], .inr ?_, h.2.trans h2⟩
  rw [← cells_app, ← cells_str p]
  exact h1
theorem Bd.len {w wx : World} {X : List UInt8} (h : Bd w w.heap.size X wx) : Calls Tryd.prog 34 #[.pointer (some ⟨w.heap.size, 0, none⟩)] wx fun e w' => e = .returned (.int .i64 X.length) ∧ w' = wx := by
  have k := Tryd.Builder_Len _ _ _ wx h.1
  rw [cells_len] at k
  exact k
theorem Bd.string {w wx : World} {X : List UInt8} (h : Bd w w.heap.size X wx) : Calls Tryd.prog 37 #[.pointer (some ⟨w.heap.size, 0, none⟩)] wx fun e w' => e = .returned (.string (tx X)) ∧ Only (fun _ => False) w w' := by
  refine (Tryd.Builder_String_any _ _ X wx h.1 h.2.size).mono ?_
  rintro e w' ⟨rfl, h2⟩
  exact ⟨rfl, only_of_below (h.2.trans h2)⟩
theorem pcut {w : World} (hg : Gr w) (r : List UInt8) (hr : r.length ≤ 200000) (p r2 : List UInt8) (mo : Bool) (e : Lib.cut r [47] = (p, r2, mo)) : Calls Tryd.prog 33 #[.string (tx r), .string ⟨#[47]⟩] w fun e w' => e = .returned (.tuple #[.string (tx p), .string (tx r2), .bool mo]) ∧ ∃ n, w' = w.drewN n := by
  obtain ⟨m, hm⟩ := hg.2
  have h := Tryd.strings_Cut (tx r) ⟨#[47]⟩ m w (by rw [tx_size]; omega) hm
  rw [tx_list] at h
  rw [show (⟨#[47]⟩ : ByteArray).data.toList = [47] from rfl, e] at h
  exact h
set_option maxHeartbeats 4000000 in
theorem pleft (l : List UInt8) (w : World) (hg : Gr w) (hs : l.length ≤ 100000) : Calls Tryd.prog 24 #[.string (tx l)] w fun e w' => e = .returned (.string (tx (pathF l))) ∧ Only (fun _ => False) w w' := by
  have HG := Lib.hid hg
  clear hg
  have HF := Lib.hid (Bd.fresh w)
  have HCUT : Hid (∀ (w1 : World) (r : List UInt8), Gr w1 → r.length ≤ 200000 → ∀ (p r2 : List UInt8) (mo : Bool), Lib.cut r [47] = (p, r2, mo) → Calls Tryd.prog 33 #[.string (tx r), .string ⟨#[47]⟩] w1 fun e w' => e = .returned (.tuple #[.string (tx p), .string (tx r2), .bool mo]) ∧ ∃ n, w' = w1.drewN n) := Lib.hid fun w1 r h1 h2 p r2 mo e => pcut h1 r h2 p r2 mo e
  go_enter Tryd.func24, Tryd.ntmps24
  go_wp2_with fail
  go_loopg [4, 5, 6] (l.length + 2) (fun gk u v x wx => ∃ (p r : List UInt8) (mo : Bool) (done : List (List UInt8)), u = .string (tx p) ∧ v = .string (tx r) ∧ x = .bool mo ∧ (mo = true → r.length + 1 < gk) ∧ r.length ≤ l.length ∧ Hid (LeftSt l r mo done) ∧ Hid (Bd w w.heap.size (joinF (done.filter keepP)) wx))
  case atStart => exact ⟨[], l, true, [], rfl, rfl, rfl, fun _ => by omega, Nat.le_refl _, Lib.hid (LeftSt.start l), HF⟩
  case round =>
    obtain ⟨p0, r, mo0, done, rfl, rfl, rfl, hgk, hr, HS, HB⟩ := hrel
    clear HF
    cases mo0 with
    | false =>
      have HX := Lib.hid HB.out.string
      have HE := Lib.hid HS.out.finish
      rw [HE.out] at HX
      clear HB HS
      go_wp2_with fail
      refine HX.out.mono ?_
      rintro e w2 ⟨rfl, o2⟩
      have HO := Lib.hid o2
      clear o2 HX
      go_wp2
      go_ret
      exact ⟨rfl, HO.out⟩
    | true =>
      have hgk2 := hgk rfl
      clear hgk
      obtain ⟨p, r2, mo, hc, he, hlt, hpl, hrl⟩ := cut_any r
      have HC := Lib.hid (HCUT.out wr r (HG.out.keep HB.out.only) (by omega) p r2 mo hc)
      have HS2 := Lib.hid (HS.out.next he)
      have hml := HS.out.len
      have HK := Lib.hid (kept_join done p)
      have HK0 := Lib.hid (kept_no done p)
      clear hc he HCUT
      generalize hX : joinF (done.filter keepP) = X at HB hml HK
      go_wp2_with fail
      refine HC.out.mono ?_
      rintro e w2 ⟨rfl, n, rfl⟩
      have HB2 := Lib.hid (HB.out.drewN n)
      clear HC HB
      generalize wr.drewN n = w2 at HB2 ⊢
      have t1 := tx_toList p
      by_cases c1 : p = []
      · have q1 : p.isEmpty = true := by rw [c1]; rfl
        have HE := Lib.hid (HK0.out (.inl c1))
        clear c1 HK HK0
        go_wp2_with fail
        go_roundg (gk - 1)
        case measure => omega
        case rel =>
          refine ⟨p, r2, mo, done ++ [p], rfl, rfl, rfl, fun h => by have := hlt h; omega, by omega, HS2, ?_⟩
          rw [HE.out, hX]
          exact HB2
      have q1 : p.isEmpty = false := by rw [List.isEmpty_eq_false_iff]; exact c1
      by_cases c2 : p = [46]
      · have q2 : (p == [46]) = true := by rw [beq_iff_eq]; exact c2
        have HE := Lib.hid (HK0.out (.inr c2))
        clear c1 c2 HK HK0
        go_wp2_with fail
        go_roundg (gk - 1)
        case measure => omega
        case rel =>
          refine ⟨p, r2, mo, done ++ [p], rfl, rfl, rfl, fun h => by have := hlt h; omega, by omega, HS2, ?_⟩
          rw [HE.out, hX]
          exact HB2
      have q2 : (p == [46]) = false := by rw [beq_eq_false_iff_ne]; exact c2
      have HE := Lib.hid (HK.out c1 c2)
      have HL := Lib.hid HB2.out.len
      clear c1 c2 HK HK0 hX
      by_cases c3 : X = []
      · have hx0 : X.length = 0 := by rw [c3]; rfl
        rw [hx0] at HL
        have HE2 : Hid (joinF ((done ++ [p]).filter keepP) = X ++ p) := Lib.hid (by rw [HE.out, if_pos c3, c3]; rfl)
        have HT := Lib.hid (HB2.out.text p (by omega))
        clear c3 HE HB2
        go_wp2_with fail
        refine HL.out.mono ?_
        rintro e _ ⟨rfl, rfl⟩
        clear HL
        go_wp2_with fail
        refine HT.out.mono ?_
        rintro e w3 ⟨rfl, h3⟩
        have HB3 := Lib.hid h3
        clear h3 HT
        go_wp2_with fail
        go_roundg (gk - 1)
        case measure => omega
        case rel =>
          refine ⟨p, r2, mo, done ++ [p], rfl, rfl, rfl, fun h => by have := hlt h; omega, by omega, HS2, ?_⟩
          rw [HE2.out]
          exact HB3
      · have hx0 : (0 : Int) < (X.length : Int) := by have := List.length_pos_iff.2 c3; omega
        have HE2 : Hid (joinF ((done ++ [p]).filter keepP) = X ++ [47] ++ p) := Lib.hid (by rw [HE.out, if_neg c3, List.append_assoc]; rfl)
        have HY := Lib.hid (HB2.out.byte (by omega) 47)
        clear c3 HE HB2
        have e47 : (UInt8.toNat 47) = 47 := rfl
        rw [e47] at HY
        clear e47
        go_wp2_with fail
        refine HL.out.mono ?_
        rintro e _ ⟨rfl, rfl⟩
        clear HL
        go_wp2_with fail
        refine HY.out.mono ?_
        rintro e w3 ⟨rfl, h3⟩
        have HT := Lib.hid (h3.text p (by rw [List.length_append, List.length_cons, List.length_nil]; omega))
        clear h3 HY
        go_wp2_with fail
        refine HT.out.mono ?_
        rintro e w4 ⟨rfl, h4⟩
        have HB3 := Lib.hid h4
        clear h4 HT
        go_wp2_with fail
        go_roundg (gk - 1)
        case measure => omega
        case rel =>
          refine ⟨p, r2, mo, done ++ [p], rfl, rfl, rfl, fun h => by have := hlt h; omega, by omega, HS2, ?_⟩
          rw [HE2.out]
          exact HB3
set_option maxHeartbeats 4000000 in
theorem pnormal (l : List UInt8) (w : World) (hg : Gr w) (hs : l.length ≤ 90000) : Calls Tryd.prog 7 #[.string (tx l)] w fun e w' => e = .returned (.tuple #[.string (tx (normF l).1), .bool (normF l).2.1, .int .i64 (normF l).2.2]) ∧ Only (fun _ => False) w w' := by
  have hz : (tx l).size = l.length := tx_size l
  have tl := tx_toList l
  by_cases h0 : l = []
  · subst h0
    have q0 : ([] : List UInt8).isEmpty = true := rfl
    have HE : Hid (normF [] = ([], false, 5)) := Lib.hid (if_pos (.inl rfl))
    go_enter Tryd.func7, Tryd.ntmps7
    go_wp2
    go_ret3
    rw [HE.out]
    exact ⟨rfl, Only.refl _ _⟩
  · have q0 : l.isEmpty = false := by rw [List.isEmpty_eq_false_iff]; exact h0
    have HLP := Lib.hid (pleft l w hg (by omega))
    have HG := Lib.hid hg
    have HPL := Lib.hid (path_len l)
    obtain ⟨N, hN⟩ : ∃ N, l.length = N := ⟨_, rfl⟩
    have hN0 : 0 < N := by rw [← hN]; exact List.length_pos_iff.2 h0
    have HN := Lib.hid hN
    rw [hN] at hz hs HPL
    clear hN hg
    have hlt : 0 < (tx l).size := by omega
    obtain ⟨b, hb⟩ : ∃ b, (tx l)[0]'hlt = b := ⟨_, rfl⟩
    have eb : l.getD 0 0 = b := by rw [← hb, tx_byte]
    by_cases h47 : b = 47
    · subst h47
      have HE : Hid (normF l = ([], false, 5)) := Lib.hid (if_pos (.inr eb))
      clear eb h0
      go_enter Tryd.func7, Tryd.ntmps7
      go_wp2
      go_ret3
      rw [HE.out]
      exact ⟨rfl, Only.refl _ _⟩
    · have q1 : ((b.toNat : Int) == 47) = false := by
        rw [beq_eq_false_iff_ne]
        exact fun e => h47 (UInt8.toNat_inj.1 (by show b.toNat = 47; omega))
      have HE : Hid (normF l = if rightF (pathF l) = true then (pathF l, decide (l.getD (l.length - 1) 0 = 47), 0) else ([], false, 5)) := Lib.hid (if_neg (by rw [eb]; exact fun e => e.elim h0 h47))
      have HPC : Hid (∀ w1, Gr w1 → _) := Lib.hid fun w1 hg => pcheck (pathF l) w1 hg (by have := HPL.out; omega)
      clear eb h0 h47 HPL
      generalize pathF l = P at HLP HE HPC
      go_enter Tryd.func7, Tryd.ntmps7
      go_wp2_with fail
      refine HLP.out.mono ?_
      rintro e w2 ⟨rfl, o2⟩
      have HO := Lib.hid o2
      have HC := Lib.hid (HPC.out w2 (HG.out.keep o2))
      clear o2 HLP HPC HG
      cases hR : rightF P with
      | false =>
        have HE2 : Hid (normF l = ([], false, 5)) := Lib.hid (by rw [HE.out, if_neg (by rw [hR]; decide)])
        rw [hR, if_neg (by decide)] at HC
        clear hR HE
        go_wp2_with fail
        refine HC.out.mono ?_
        rintro e w3 ⟨rfl, o3⟩
        have HO3 := Lib.hid (HO.out.trans o3)
        clear o3 HO HC
        go_wp2
        go_ret3
        rw [HE2.out]
        exact ⟨rfl, HO3.out⟩
      | true =>
        obtain ⟨M, hM⟩ : ∃ M, N - 1 = M := ⟨_, rfl⟩
        have hltM : M < (tx l).size := by omega
        have hltN : M < N := by omega
        obtain ⟨y, hy⟩ : ∃ y, (tx l)[M]'hltM = y := ⟨_, rfl⟩
        have ey : l.getD (l.length - 1) 0 = y := by rw [← hy, tx_byte, HN.out, hM]
        have hM2 : (N : Int) - 1 = (M : Int) := by omega
        have HE2 : Hid (normF l = (P, decide (y = 47), 0)) := Lib.hid (by rw [HE.out, if_pos hR, ey])
        have hy2 : ((y.toNat : Int) == 47) = decide (y = 47) := by
          rw [Bool.eq_iff_iff, beq_iff_eq, decide_eq_true_iff]
          constructor
          · exact fun e => UInt8.toNat_inj.1 (by show y.toNat = 47; omega)
          · intro e
            rw [e]
            rfl
        rw [hR, if_pos rfl] at HC
        clear hR HE ey
        go_wp2_with fail
        refine HC.out.mono ?_
        rintro e w3 ⟨rfl, o3⟩
        have HO3 := Lib.hid (HO.out.trans o3)
        clear o3 HO HC
        go_upto_region 7 with fail
        go_quiet (fail)
        go_wp2
        go_ret3
        rw [HE2.out]
        exact ⟨rfl, HO3.out.drewN _⟩
end Go.Proofs.YtaefhfpgehgkmaaDoor
