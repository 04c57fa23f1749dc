/- Layer 13, the program: parts, the order, the look at a part. -/
import Derived.Test.YtaeaomlhbdbbfaaGreatDoorRpG
namespace Go.Proofs.YtaeaomlhbdbbfaaGreatDoor
open Go.RowKit

theorem cmpB_drop (a b : List UInt8) (i : Nat) (ha : i < a.length) (hb : i < b.length) : cmpB (a.drop i) (b.drop i) = if a.getD i 0 = b.getD i 0 then cmpB (a.drop (i + 1)) (b.drop (i + 1)) else if rankF (a.getD i 0) < rankF (b.getD i 0) then -1 else 1 := by
  rw [List.drop_eq_getElem_cons ha, List.drop_eq_getElem_cons hb, List.getD_eq_getElem?_getD, List.getD_eq_getElem?_getD, List.getElem?_eq_getElem ha, List.getElem?_eq_getElem hb]
  rfl
theorem rank_ne {x y : UInt8} (h : x ≠ y) : rankF x ≠ rankF y := fun e => h (by
  unfold rankF at e
  split at e <;> split at e
  · rename_i h1 h2
    rw [h1, h2]
  · omega
  · omega
  · exact UInt8.toNat_inj.1 (by omega))
theorem rank_in (x : UInt8) : -1 ≤ rankF x ∧ rankF x ≤ 255 := by
  have := x.toNat_lt
  unfold rankF
  split <;> omega
theorem cmpB_end (a b : List UInt8) (i : Nat) (h : i = min a.length b.length) : cmpB (a.drop i) (b.drop i) = Lib.compareInt a.length b.length := by
  unfold Lib.compareInt
  by_cases h1 : a.length < b.length
  · rw [if_pos (by omega), List.drop_eq_nil_iff.2 (by omega)]
    rcases hb : b.drop i with _ | ⟨y, r⟩
    · have := List.drop_eq_nil_iff.1 hb
      omega
    · rfl
  · rw [if_neg (by omega), List.drop_eq_nil_iff.2 (show b.length ≤ i by omega)]
    rcases ha : a.drop i with _ | ⟨y, r⟩
    · have := List.drop_eq_nil_iff.1 ha
      rw [if_neg (by omega)]
      rfl
    · have : i < a.length := by
        rcases Nat.lt_or_ge i a.length with g | g
        · exact g
        · rw [List.drop_eq_nil_iff.2 g] at ha
          cases ha
      rw [if_pos (by omega)]
      rfl
set_option maxRecDepth 20000 in
set_option maxHeartbeats 4000000 in
theorem pcompare (x y : List UInt8) (w : World) (hx : x.length ≤ 100000) (_ : y.length ≤ 100000) : Calls Tryz.prog 53 #[.string (tx x), .string (tx y)] w fun e w' => e = .returned (.int .i64 (cmpF (partsF x) (partsF y))) ∧ Only (fun _ => False) w w' := by
  have HU : Hid (cmpF (partsF x) (partsF y) = cmpB x y) := Lib.hid (cmp_parts x y)
  have HD : Hid (∀ i, i < x.length → i < y.length → cmpB (x.drop i) (y.drop i) = if x.getD i 0 = y.getD i 0 then cmpB (x.drop (i + 1)) (y.drop (i + 1)) else if rankF (x.getD i 0) < rankF (y.getD i 0) then -1 else 1) := Lib.hid fun i => cmpB_drop x y i
  have HE : Hid (∀ i, i = min x.length y.length → cmpB (x.drop i) (y.drop i) = Lib.compareInt x.length y.length) := Lib.hid fun i => cmpB_end x y i
  have hz : (tx x).size = x.length := tx_size x
  have hz2 : (tx y).size = y.length := tx_size y
  generalize x.length = N at hz hx HD HE
  generalize y.length = M at hz2 HD HE
  obtain ⟨m, hm⟩ : ∃ m, min N M = m := ⟨_, rfl⟩
  have hmN : m ≤ N := by omega
  have hmM : m ≤ M := by omega
  have hmi : min (N : Int) (M : Int) = (m : Int) := by omega
  rw [hm] at HE
  have HM := Lib.hid hm
  clear hm
  go_enter Tryz.func53, Tryz.ntmps53
  go_wp2_with fail
  go_loopg [11] m (fun gk u wx => ∃ i : Nat, u = .int .i64 i ∧ i + gk = m ∧ Hid (cmpB x y = cmpB (x.drop i) (y.drop i)) ∧ ∃ q, wx = w.drewN q)
  case atStart => exact ⟨0, rfl, by omega, Lib.hid rfl, 0, rfl⟩
  case round =>
    obtain ⟨i, rfl, hi, HC, q, rfl⟩ := hrel
    by_cases hlt : i < m
    · have l4 : (i : Int) < (m : Int) := by omega
      have hlN : i < N := by omega
      have hlM : i < M := by omega
      have hlx : i < (tx x).size := by omega
      have hly : i < (tx y).size := by omega
      obtain ⟨b, hb⟩ : ∃ b, (tx x)[i]'hlx = b := ⟨_, rfl⟩
      obtain ⟨c, hc⟩ : ∃ c, (tx y)[i]'hly = c := ⟨_, rfl⟩
      have HS := Lib.hid (HD.out i (by omega) (by omega))
      rw [show x.getD i 0 = b by rw [← hb, tx_byte], show y.getD i 0 = c by rw [← hc, tx_byte]] at HS
      by_cases hbc : b = c
      · subst hbc
        have HC2 : Hid (cmpB x y = cmpB (x.drop (i + 1)) (y.drop (i + 1))) := Lib.hid (by rw [HC.out, HS.out, if_pos rfl])
        clear HS HC HD HE
        go_upto_region 4 with fail
        go_quiet (fail)
        go_wp2_with fail
        go_roundg (gk - 1)
        case measure => omega
        case rel => exact ⟨i + 1, by go_num, by omega, HC2, _, rfl⟩
      · have hne : ¬ (b.toNat : Int) = (c.toNat : Int) := fun e => hbc (UInt8.toNat_inj.1 (by omega))
        have hne2 : ((b.toNat : Int) == (c.toNat : Int)) = false := by rw [beq_eq_false_iff_ne]; exact hne
        have HR : Hid (Lib.compareInt (rankF b) (rankF c) = cmpB x y) := Lib.hid (by
          rw [HC.out, HS.out, if_neg hbc]
          unfold Lib.compareInt
          by_cases hr : rankF b < rankF c
          · rw [if_pos hr, if_pos hr]
          · have := rank_ne hbc
            rw [if_neg hr, if_neg hr, if_pos (by omega)])
        have CB : Hid (∀ (w0 : World) (k : Nat), Calls Tryz.prog 68 #[.int .u8 b.toNat] (w0.drewN k) fun e w' => e = .returned (.int .i64 (rankF b)) ∧ ∃ n, w' = w0.drewN n) := Lib.hid fun w0 k => (prank b (w0.drewN k)).mono fun e w' h => ⟨h.1, k, h.2⟩
        have CC : Hid (∀ (w0 : World) (k : Nat), Calls Tryz.prog 68 #[.int .u8 c.toNat] (w0.drewN k) fun e w' => e = .returned (.int .i64 (rankF c)) ∧ ∃ n, w' = w0.drewN n) := Lib.hid fun w0 k => (prank c (w0.drewN k)).mono fun e w' h => ⟨h.1, k, h.2⟩
        have CI : Hid (∀ (w0 : World) (k : Nat), Calls Tryz.prog 67 #[.int .i64 (rankF b), .int .i64 (rankF c)] (w0.drewN k) fun e w' => e = .returned (.int .i64 (Lib.compareInt (rankF b) (rankF c))) ∧ ∃ n, w' = w0.drewN n) := Lib.hid fun w0 k => (Tryz.cmp_Compare_int (rankF b) (rankF c) (w0.drewN k)).mono fun e w' h => ⟨h.1, k, h.2⟩
        have hr1 := rank_in b
        have hr2 := rank_in c
        generalize rankF b = rb at CB CI HR hr1
        generalize rankF c = rc at CC CI HR hr2
        generalize Lib.compareInt rb rc = C at CI HR
        clear HS HC HD HE
        go_upto_region 4 with fail
        go_quiet (fail)
        have HO2 : Hid (Only (fun _ => False) w ((w.drewN q).drewN nq)) := Lib.hid (((Only.refl _ w).drewN _).drewN _)
        generalize (w.drewN q).drewN nq = wz at HO2 ⊢
        go_upto_region 5 with fail
        go_quiet ((first | (go_at_call 67; exact CI.out _ _) | (go_at_call 68; first | exact CB.out _ _ | exact CC.out _ _)))
        go_wp2
        go_ret
        rw [HU.out, ← HR.out]
        exact ⟨rfl, HO2.out.drewN _⟩
    · obtain rfl : i = m := by omega
      have HR : Hid (Lib.compareInt N M = cmpB x y) := Lib.hid (by rw [HC.out]; exact (HE.out i rfl).symm)
      have CI := Lib.hid (Tryz.cmp_Compare_int N M (w.drewN q))
      generalize Lib.compareInt N M = C at CI HR
      go_wp2_with fail
      refine CI.out.mono ?_
      rintro e _ ⟨rfl, rfl⟩
      go_wp2
      go_ret
      rw [HU.out, ← HR.out]
      exact ⟨rfl, (Only.refl _ w).drewN q⟩
set_option maxRecDepth 20000 in
theorem pparts (l : List UInt8) (w : World) (hg : Gr w) (hs : l.length ≤ 100000) : Calls Tryz.prog 49 #[.string (tx l)] w (StrsP w (partsF l)) := by
  obtain ⟨m, hm⟩ := hg.2
  clear hg
  by_cases h0 : l = []
  · subst h0
    have he : (tx ([] : List UInt8)).toList.isEmpty = true := by rw [tx_toList]; rfl
    go_enter Tryz.func49, Tryz.ntmps49
    go_wp2
    go_ret
    exact ⟨none, 0, rfl, SMade.nil w⟩
  · have he : (tx l).toList.isEmpty = false := empty_no h0
    have H := Tryz.strings_Split (tx l) ⟨#[47]⟩ m w (by rw [tx_size]; omega) hm (by decide)
    rw [split_B, split_n] at H
    have HP : Hid (partsF l = splitF l) := Lib.hid (if_neg h0)
    have hfew := split_few l
    generalize splitF l = ps at H HP hfew
    have HH := Lib.hid H
    have hn := strs_length ps
    clear H hm
    obtain ⟨n, hN⟩ : ∃ n, ps.length = n := ⟨_, rfl⟩
    rw [hN] at HH hn
    have HN := Lib.hid hN
    have hn2 : n ≤ 200000 := by omega
    clear hN
    go_enter Tryz.func49, Tryz.ntmps49
    go_wp2_with fail
    refine HH.out.mono ?_
    rintro e _ ⟨rfl, rfl⟩
    go_wp2
    go_ret
    rw [HP.out]
    refine ⟨some ⟨w.heap.size, 0, none⟩, n, by rw [HN.out]; rfl, ?_, (Only.refl _ w).alloc _, fun j hj => ?_⟩
    · rw [HN.out]
      exact ⟨by omega, .inr ⟨w.heap.size, _, rfl, heap_alloc_new w _, Nat.le_refl _, by unfold maxLen; omega, by rw [List.size_toArray, hn]; omega, List.take_of_length_le (by rw [hn]; omega)⟩⟩
    · obtain ⟨ad, e1, e2⟩ := hj
      obtain rfl := Option.some.inj e1
      exact Nat.le_of_eq e2
end Go.Proofs.YtaeaomlhbdbbfaaGreatDoor
