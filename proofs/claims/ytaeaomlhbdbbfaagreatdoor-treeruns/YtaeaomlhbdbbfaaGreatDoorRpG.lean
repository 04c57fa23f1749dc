/- Layer 13, the program: what must stand in memory (Go's own tables), and its small functions: parents, names, what is under what. -/
import Derived.Test.YtaeaomlhbdbbfaaGreatDoorRtA
import Derived.Test.YtaeaomlhbdbbfaaGreatDoorRpB
import Derived.Test.YtaeaomlhbdbbfaaGreatDoorTShelfB
namespace Go.Proofs.YtaeaomlhbdbbfaaGreatDoor
open Go.RowKit

/-- Go's own variables stand as they were laid. -/
def Gr (w : World) : Prop := Lib.Utf8Tabs 0 1 w ∧ ∃ m, w.cell? ⟨2, 0, none⟩ = some (.int .i64 m)
theorem Gr.keep {w w' : World} (h : Gr w) (k : Only (fun _ => False) w w') : Gr w' := by
  obtain ⟨⟨h1, h2⟩, m, h3⟩ := h
  exact ⟨⟨fun c hc => only_cell (h1 c hc) k, fun i hi => ⟨only_cell (h2 i hi).1 k, only_cell (h2 i hi).2 k⟩⟩, m, only_cell h3 k⟩
theorem only_of_below {w w' : World} (h : Below w.heap.size w w') : Only (fun _ => False) w w' := ⟨h.os, h.tape, h.output, h.size, fun i hi _ => h.block i hi⟩

theorem plast (l : List UInt8) (w : World) (hs : l.length ≤ 1000000) : Calls Tryz.prog 45 #[.string (tx l), .int .u8 47] w fun e w' => e = .returned (.int .i64 (lastZ (lstF l l.length))) ∧ w' = w := by
  have h := Tryz.strings_LastIndexByte (tx l) 47 (by rw [tx_size]; omega) w
  rw [last_B] at h
  exact h
set_option maxRecDepth 20000 in
set_option maxHeartbeats 1000000 in
theorem pparent (l : List UInt8) (w : World) (hs : l.length ≤ 100000) : Calls Tryz.prog 27 #[.string (tx l)] w fun e w' => e = .returned (.tuple #[.string (tx (parentF l).1), .bool (parentF l).2]) ∧ Only (fun _ => False) w w' := by
  have H := Lib.hid (plast l w (by omega))
  have hz : (tx l).size = l.length := tx_size l
  have HC : Hid (∀ k, (tx l).extract 0 k = tx (l.take k)) := Lib.hid fun k => tx_cut _ 0 k
  have HP : Hid (parentF l = parentOf l (lstF l l.length)) := Lib.hid rfl
  have hlt := lst_lt l l.length
  generalize l.length = N at hz hlt hs H HP
  generalize lstF l N = r at H hlt HP
  cases r with
  | none =>
    go_enter Tryz.func27, Tryz.ntmps27
    go_wp2_with fail
    refine H.out.mono ?_
    rintro e _ ⟨rfl, rfl⟩
    have e1 : lastZ none = -1 := rfl
    clear H HC hlt
    go_wp2
    go_ret2
    rw [HP.out]
    exact ⟨rfl, Only.refl _ _⟩
  | some k =>
    have hk := hlt k rfl
    have hk2 : k ≤ N := by omega
    go_enter Tryz.func27, Tryz.ntmps27
    go_wp2_with fail
    refine H.out.mono ?_
    rintro e _ ⟨rfl, rfl⟩
    have e1 : lastZ (some k) = (k : Int) := rfl
    have e2 : ¬ (k : Int) < 0 := by omega
    have hcut := HC.out k
    rw [e1]
    clear H HC hlt e1
    go_wp2
    go_ret2
    rw [HP.out]
    exact ⟨rfl, Only.refl _ _⟩
set_option maxRecDepth 20000 in
theorem pdir (d n : List UInt8) (w : World) (hd : d.length ≤ 100000) (hn : n.length ≤ 100000) : Calls Tryz.prog 61 #[.string (tx d), .string (tx n)] w fun e w' => e = .returned (.string (tx (dirF d n))) ∧ Only (fun _ => False) w w' := by
  by_cases h0 : d = []
  · subst h0
    have he : (tx ([] : List UInt8)).toList.isEmpty = true := by rw [tx_toList]; rfl
    have HE : Hid (dirF [] n = n) := Lib.hid rfl
    go_enter Tryz.func61, Tryz.ntmps61
    go_wp2
    go_ret
    rw [HE.out]
    exact ⟨rfl, Only.refl _ _⟩
  · have he : (tx d).toList.isEmpty = false := empty_no h0
    have HE : Hid (dirF d n = d ++ 47 :: n) := Lib.hid (if_neg h0)
    have ha := add_tx (P := Tryz.prog) d [47] (by omega) (by decide)
    have ha2 := add_tx (P := Tryz.prog) (d ++ [47]) n (by rw [List.length_append, List.length_cons, List.length_nil]; omega) (by omega)
    have h47 : (⟨#[47]⟩ : ByteArray) = tx [47] := rfl
    go_enter Tryz.func61, Tryz.ntmps61
    go_wp2
    go_ret
    rw [HE.out]
    exact ⟨by simp, Only.refl _ _⟩
set_option maxRecDepth 20000 in
set_option maxHeartbeats 2000000 in
theorem punder (x y : List UInt8) (w : World) (hx : x.length ≤ 100000) (hy : y.length ≤ 100000) : Calls Tryz.prog 54 #[.string (tx x), .string (tx y)] w fun e w' => e = .returned (.bool (underF (partsF x) (partsF y))) ∧ Only (fun _ => False) w w' := by
  have hz : (tx x).size = x.length := tx_size x
  have hz2 : (tx y).size = y.length := tx_size y
  have HU : Hid (underF (partsF x) (partsF y) = underB x y) := Lib.hid (under_parts x y)
  by_cases h0 : y = []
  · subst h0
    have he : (tx ([] : List UInt8)).toList.isEmpty = true := by rw [tx_toList]; rfl
    obtain ⟨b, hb⟩ : ∃ b, (tx x).toList.isEmpty = b := ⟨_, rfl⟩
    have HE : Hid (underB x [] = !b) := Lib.hid (by
      unfold underB
      rw [if_pos rfl, ← hb, tx_toList]
      cases x <;> rfl)
    go_enter Tryz.func54, Tryz.ntmps54
    go_wp2
    go_ret
    rw [HU.out, HE.out]
    exact ⟨rfl, Only.refl _ _⟩
  · have he : (tx y).toList.isEmpty = false := empty_no h0
    have HE : Hid (underB x y = (decide (y.length < x.length) && (decide (x.getD y.length 0 = 47) && decide (x.take y.length = y)))) := Lib.hid (if_neg h0)
    have HC : Hid (∀ k, (tx x).extract 0 k = tx (x.take k)) := Lib.hid fun k => tx_cut _ 0 k
    by_cases h1 : y.length < x.length
    · obtain ⟨N, hN⟩ : ∃ N, x.length = N := ⟨_, rfl⟩
      obtain ⟨M, hM⟩ : ∃ M, y.length = M := ⟨_, rfl⟩
      rw [hN] at h1 hz hx HE
      rw [hM] at h1 hz2 hy HE
      have q1 : decide ((M : Int) < (N : Int)) = true := decide_eq_true (by omega)
      have hlt : M < (tx x).size := by omega
      obtain ⟨b, hb⟩ : ∃ b, (tx x)[M]'hlt = b := ⟨_, rfl⟩
      have eb : x.getD M 0 = b := by rw [← hb, tx_byte]
      rw [eb, decide_eq_true h1, Bool.true_and] at HE
      by_cases h2 : b = 47
      · have q2 : ((b.toNat : Int) == 47) = true := by rw [h2]; rfl
        rw [decide_eq_true h2, Bool.true_and] at HE
        have hcut := HC.out M
        have t1 := tx_toList (x.take M)
        have t2 := tx_toList y
        have he2 : y.isEmpty = false := by rw [← t2]; exact he
        obtain ⟨c, hc⟩ : ∃ c, decide (x.take M = y) = c := ⟨_, rfl⟩
        rw [hc] at HE
        have hc2 : (x.take M == y) = c := by
          rw [← hc]
          by_cases g : x.take M = y
          · rw [decide_eq_true g, beq_iff_eq]; exact g
          · rw [decide_eq_false g, beq_eq_false_iff_ne]; exact g
        clear eb HC hN hM
        go_enter Tryz.func54, Tryz.ntmps54
        go_wp2
        go_ret
        rw [HU.out, HE.out]
        exact ⟨rfl, Only.refl _ _⟩
      · have q2 : ((b.toNat : Int) == 47) = false := by
          rw [beq_eq_false_iff_ne]
          exact fun e => h2 (UInt8.toNat_inj.1 (by show b.toNat = 47; omega))
        rw [decide_eq_false h2, Bool.false_and] at HE
        clear eb HC hN hM
        go_enter Tryz.func54, Tryz.ntmps54
        go_wp2
        go_ret
        rw [HU.out, HE.out]
        exact ⟨rfl, Only.refl _ _⟩
    · have q1 : decide ((y.length : Int) < (x.length : Int)) = false := decide_eq_false (by omega)
      rw [decide_eq_false h1, Bool.false_and] at HE
      clear HC
      go_enter Tryz.func54, Tryz.ntmps54
      go_wp2
      go_ret
      rw [HU.out, HE.out]
      exact ⟨rfl, Only.refl _ _⟩
set_option maxRecDepth 20000 in
/-- A byte's place in order, by the program. -/
theorem prank (b : UInt8) (w : World) : Calls Tryz.prog 68 #[.int .u8 b.toNat] w fun e w' => e = .returned (.int .i64 (rankF b)) ∧ w' = w := by
  have hb := b.toNat_lt
  by_cases h : b = 47
  · have q : ((b.toNat : Int) == 47) = true := by rw [h]; rfl
    have e : rankF b = -1 := if_pos h
    rw [e]
    go_enter Tryz.func68, Tryz.ntmps68
    go_wp2
    go_ret
    exact ⟨rfl, rfl⟩
  · have q : ((b.toNat : Int) == 47) = false := by
      rw [beq_eq_false_iff_ne]
      exact fun e => h (UInt8.toNat_inj.1 (by show b.toNat = 47; omega))
    have e : rankF b = b.toNat := if_neg h
    rw [e]
    generalize b.toNat = k at hb q
    go_enter Tryz.func68, Tryz.ntmps68
    go_wp2
    go_ret
    exact ⟨rfl, rfl⟩
end Go.Proofs.YtaeaomlhbdbbfaaGreatDoor
