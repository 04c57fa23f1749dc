/- Layer 13, the document: parts joined, parents, names, what is under what, and the order. -/
import Derived.Test.YtaefhfpgehgkmaaDoorRtA
namespace Go.Proofs.YtaefhfpgehgkmaaDoor
open Go.RowKit

theorem getD_take_snoc {α : Type} (d : α) (l : List α) (i : Nat) (h : i < l.length) : l.take (i + 1) = l.take i ++ [l.getD i d] := by
  rw [List.take_add_one, List.getD_eq_getElem?_getD, List.getElem?_eq_getElem h]
  rfl
/-- One text behind the other. -/
theorem add_tx {P : Program} (a b : List UInt8) (ha : a.length ≤ 4000000000) (hb : b.length ≤ 4000000000) : ∀ w : World, (Op.stringOp .add (tx a) (tx b)).run P w = .ok (.string (tx (a ++ b))) w := fun w => by
  rw [← tx_add]
  exact run_string_add_sum w (tx a) (tx b) (by rw [tx_size, tx_size]; omega)
set_option maxHeartbeats 4000000 in
theorem rjoined (A : Option Addr) (n c B : Nat) (ps : List (List UInt8)) (w : World) (h : See w B A (strs ps)) (hn : ps.length = n) (hn2 : n ≤ 1000000) (hb : (joinF ps).length ≤ 1000000) :
    Calls Tryd.prog 25 #[.slice A n c] w fun e w' => e = .returned (.string (tx (joinF ps))) ∧ Only (fun _ => False) w w' := by
  have HS := Lib.hid h
  have HN := Lib.hid hn
  have HB := Lib.hid hb
  clear h hn hb
  go_enter Tryd.func25, Tryd.ntmps25
  go_wp2_with fail
  go_loopg [3, 4] n (fun gk u v wx => ∃ i : Nat, u = .string (tx (joinF (ps.take i))) ∧ v = .int .i64 i ∧ i + gk = n ∧ ∃ q, wx = w.drewN q)
  case atStart => exact ⟨0, rfl, rfl, by omega, 0, rfl⟩
  case round =>
    obtain ⟨i, rfl, rfl, hi, q, rfl⟩ := hrel
    by_cases hlt : i < n
    · have hlt2 : (i : Int) < (n : Int) := by omega
      obtain ⟨b, off, rfl, _, d1⟩ := HS.out i _ (strs_at ps i (by rw [HN.out]; exact hlt))
      have HT : Hid (ps.take (i + 1) = ps.take i ++ [ps.getD i []]) := Lib.hid (getD_take_snoc [] ps i (by rw [HN.out]; exact hlt))
      have hl1 := join_mono ps i
      have hl2 := join_mono ps (i + 1)
      have HJ := Lib.hid (join_snoc (ps.take i) (ps.getD i []))
      rw [HT.out, HJ.out] at hl2
      have hbb := HB.out
      generalize ps.getD i [] = P at d1 HT hl2 HJ
      obtain ⟨X, hX⟩ : ∃ X, joinF (ps.take i) = X := ⟨_, rfl⟩
      rw [hX] at hl1 hl2 HJ ⊢
      by_cases h0 : i = 0
      · subst h0
        rw [List.take_zero] at hX hl2 HJ
        rw [if_pos rfl] at hl2 HJ
        have ha := add_tx (P := Tryd.prog) X P (by omega) (by omega)
        have HX : Hid (X ++ P = joinF (ps.take (0 + 1))) := Lib.hid (by rw [HT.out, List.take_zero, HJ.out, ← hX]; rfl)
        rw [Nat.add_zero] at d1
        clear HT HJ hX hl1 hl2
        go_wp2_with fail
        go_roundg (gk - 1)
        case measure => omega
        case rel => exact ⟨0 + 1, by rw [← HX.out], by go_num, by omega, _, rfl⟩
      · have hne : ¬ ps.take i = [] := fun e => by
          have := congrArg List.length e
          rw [List.length_take, HN.out, List.length_nil] at this
          omega
        rw [if_neg hne] at hl2 HJ
        rw [List.length_append, List.length_cons] at hl2
        have ha := add_tx (P := Tryd.prog) X [47] (by omega) (by decide)
        have ha2 := add_tx (P := Tryd.prog) (X ++ [47]) P (by rw [List.length_append, List.length_cons, List.length_nil]; omega) (by omega)
        have HX : Hid (X ++ 47 :: P = joinF (ps.take (i + 1))) := Lib.hid (by rw [HT.out, HJ.out])
        have h47 : (⟨#[47]⟩ : ByteArray) = tx [47] := rfl
        have hpos : (0 : Int) < (i : Int) := by omega
        clear HT HJ hX hl1 hl2
        go_wp2_with fail
        go_roundg (gk - 1)
        case measure => omega
        case rel => exact ⟨i + 1, by rw [← HX.out], by go_num, by omega, _, rfl⟩
    · obtain rfl : i = n := by omega
      have HE : Hid (ps.take i = ps) := Lib.hid (List.take_of_length_le (by rw [HN.out]; exact Nat.le_refl _))
      go_wp2
      go_ret
      rw [HE.out]
      exact ⟨rfl, (Only.refl _ w).drewN q⟩

theorem toList_tx (l : List UInt8) : (tx l).toList = l := tx_toList l
/-- A byte of a text. -/
theorem tx_byte (l : List UInt8) (i : Nat) (h : i < (tx l).size) : (tx l)[i]'h = l.getD i 0 := byte_is (tx l) i h

set_option maxHeartbeats 4000000 in
theorem rparent (l : List UInt8) (w : World) (hs : l.length ≤ 1000000) : Calls Tryd.prog 12 #[.string (tx l)] w fun e w' => e = .returned (.tuple #[.string (tx (parentF l).1), .bool (parentF l).2]) ∧ w = w' := by
  obtain ⟨n, hn⟩ : ∃ n, l.length = n := ⟨_, rfl⟩
  have hz : (tx l).size = n := by rw [tx_size, hn]
  have HP : Hid (∀ r, lstF l n = r → parentF l = parentOf l r) := Lib.hid fun r hr => by
    unfold parentF
    rw [hn, hr]
  have HC : Hid (∀ k, (tx l).extract 0 k = tx (l.take k)) := Lib.hid fun k => tx_cut _ 0 k
  rw [hn] at hs
  clear hn
  go_enter Tryd.func12, Tryd.ntmps12
  go_wp2_with fail
  go_loopg [4] n (fun gk i wx => i = .int .i64 ((gk : Int) - 1) ∧ gk ≤ n ∧ wx = w ∧ Hid (lstF l n = lstF l gk))
  case atStart => exact ⟨by go_num, Nat.le_refl _, rfl, Lib.hid rfl⟩
  case round =>
    obtain ⟨rfl, hgk, rfl, HL⟩ := hrel
    by_cases h0 : gk = 0
    · subst h0
      have HE := Lib.hid (HP.out none (by rw [HL.out]; rfl))
      go_wp2
      go_ret2
      rw [HE.out]
      exact ⟨rfl, rfl⟩
    · obtain ⟨k, rfl⟩ : ∃ k, gk = k + 1 := ⟨gk - 1, by omega⟩
      obtain ⟨b, hb⟩ : ∃ b, (tx l)[k]'(by omega) = b := ⟨_, rfl⟩
      have eb : l.getD k 0 = b := by rw [← hb, tx_byte]
      have ek : ((k + 1 : Nat) : Int) - 1 = (k : Int) := by omega
      by_cases h47 : b = 47
      · subst h47
        have HE := Lib.hid (HP.out (some k) (by rw [HL.out, lstF, if_pos eb]))
        have hcut := HC.out k
        clear eb HC
        go_wp2
        go_ret2
        rw [HE.out]
        exact ⟨rfl, rfl⟩
      · have h48 : ¬ (b.toNat : Int) = 47 := fun e => h47 (UInt8.toNat_inj.1 (by show b.toNat = 47; omega))
        have h49 : ((b.toNat : Int) == 47) = false := by rw [beq_eq_false_iff_ne]; exact h48
        have HL2 : Hid (lstF l n = lstF l k) := Lib.hid (by rw [HL.out, lstF, if_neg (by rw [eb]; exact h47)])
        clear eb h47
        go_wp2_with fail
        go_roundg k
        case measure => omega
        case rel => exact ⟨by go_num, by omega, rfl, HL2⟩
set_option maxHeartbeats 4000000 in
theorem rbase (l : List UInt8) (w : World) (hs : l.length ≤ 1000000) : Calls Tryd.prog 17 #[.string (tx l)] w fun e w' => e = .returned (.string (tx (baseF l))) ∧ w = w' := by
  obtain ⟨n, hn⟩ : ∃ n, l.length = n := ⟨_, rfl⟩
  have hz : (tx l).size = n := by rw [tx_size, hn]
  have HP : Hid (∀ r, lstF l n = r → baseF l = baseOf l r) := Lib.hid fun r hr => by
    unfold baseF
    rw [hn, hr]
  have HC : Hid (∀ k, (tx l).extract (k + 1) n = tx (l.drop (k + 1))) := Lib.hid fun k => by
    rw [tx_cut, tx_list, List.take_of_length_le (Nat.le_of_eq hn)]
  rw [hn] at hs
  clear hn
  go_enter Tryd.func17, Tryd.ntmps17
  go_wp2_with fail
  go_loopg [3] n (fun gk i wx => i = .int .i64 ((gk : Int) - 1) ∧ gk ≤ n ∧ wx = w ∧ Hid (lstF l n = lstF l gk))
  case atStart => exact ⟨by go_num, Nat.le_refl _, rfl, Lib.hid rfl⟩
  case round =>
    obtain ⟨rfl, hgk, rfl, HL⟩ := hrel
    by_cases h0 : gk = 0
    · subst h0
      have HE := Lib.hid (HP.out none (by rw [HL.out]; rfl))
      go_wp2
      go_ret
      rw [HE.out]
      exact ⟨rfl, rfl⟩
    · obtain ⟨k, rfl⟩ : ∃ k, gk = k + 1 := ⟨gk - 1, by omega⟩
      obtain ⟨b, hb⟩ : ∃ b, (tx l)[k]'(by omega) = b := ⟨_, rfl⟩
      have eb : l.getD k 0 = b := by rw [← hb, tx_byte]
      have ek : ((k + 1 : Nat) : Int) - 1 = (k : Int) := by omega
      by_cases h47 : b = 47
      · subst h47
        have HE := Lib.hid (HP.out (some k) (by rw [HL.out, lstF, if_pos eb]))
        have hcut := HC.out k
        clear eb HC
        go_wp2
        go_ret
        rw [HE.out]
        exact ⟨rfl, rfl⟩
      · have h48 : ¬ (b.toNat : Int) = 47 := fun e => h47 (UInt8.toNat_inj.1 (by show b.toNat = 47; omega))
        have h49 : ((b.toNat : Int) == 47) = false := by rw [beq_eq_false_iff_ne]; exact h48
        have HL2 : Hid (lstF l n = lstF l k) := Lib.hid (by rw [HL.out, lstF, if_neg (by rw [eb]; exact h47)])
        clear eb h47
        go_wp2_with fail
        go_roundg k
        case measure => omega
        case rel => exact ⟨by go_num, by omega, rfl, HL2⟩

theorem rdir (d n : List UInt8) (w : World) (hd : d.length ≤ 1000000) (hn : n.length ≤ 1000000) : Calls Tryd.prog 19 #[.string (tx d), .string (tx n)] w fun e w' => e = .returned (.string (tx (dirF d n))) ∧ w = w' := by
  by_cases h0 : d = []
  · subst h0
    have he : (tx ([] : List UInt8)).toList.isEmpty = true := by rw [tx_toList]; rfl
    have HE : Hid (dirF [] n = n) := Lib.hid rfl
    go_enter Tryd.func19, Tryd.ntmps19
    go_wp2
    go_ret
    rw [HE.out]
    exact ⟨rfl, rfl⟩
  · have he : (tx d).toList.isEmpty = false := empty_no h0
    have HE : Hid (dirF d n = d ++ 47 :: n) := Lib.hid (if_neg h0)
    have ha := add_tx (P := Tryd.prog) d [47] (by omega) (by decide)
    have ha2 := add_tx (P := Tryd.prog) (d ++ [47]) n (by rw [List.length_append, List.length_cons, List.length_nil]; omega) (by omega)
    have h47 : (⟨#[47]⟩ : ByteArray) = tx [47] := rfl
    go_enter Tryd.func19, Tryd.ntmps19
    go_wp2
    go_ret
    rw [HE.out]
    exact ⟨by simp, rfl⟩
end Go.Proofs.YtaefhfpgehgkmaaDoor
