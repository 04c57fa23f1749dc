/- The document's answer for layer 1 (lists of bits), call by call: Of, Put, Align. -/
import Derived.Test.YtackcgiokkbhdaaDoorBRefMath
import Derived.Test.YtackcgiokkbhdaaDoorRows
import Derived.Test.YtackcgiokkbhdaaDoorBBase
import Derived.Deep.LoopGhost
namespace Go.Proofs.YtackcgiokkbhdaaDoor
open Go.RowKit

theorem info5 : (Tryd.prog.info? 5).map (fun i => (i.zero, i.size, i.bytes)) = some (some (.int .u8 0), 1, 1) := by kernel_rfl

/-- A row of the call's own, laid since w: nothing that was there has turned. -/
def BMade (w : World) (A : Option Addr) (n c : Nat) (l : List UInt8) (wx : World) : Prop := BRow 5 wx A n c l ∧ Only (fun _ => False) w wx ∧ ∀ j, Lies A j → w.heap.size ≤ j

theorem BMade.append {w wx wy : World} {A A' : Option Addr} {n c n' c' : Nat} {l l' : List UInt8} {o : Obj} (h : BMade w A n c l wx) (hr : BRow 5 wy A' n' c' l') (ho : Only (Lies A) (wx.alloc o) wy) (ha : A' = A ∨ A' = some ⟨(wx.alloc o).heap.size, 0, none⟩) : BMade w A' n' c' l' wy := by
  refine ⟨hr, (h.2.1.alloc o).andThen ho fun j hj => .inr (h.2.2 j hj), fun j hj => ?_⟩
  rcases ha with e | e
  · exact h.2.2 j (e ▸ hj)
  · obtain ⟨ad, e1, e2⟩ := hj
    rw [e] at e1
    obtain rfl := Option.some.inj e1
    have h1 := h.2.1.size
    have h2 : (wx.alloc o).heap.size = j := e2
    simp at h2
    omega

def OfPost (w : World) (s : ByteArray) (e : Ending) (w' : World) : Prop := ∃ A c, e = .returned (.slice A (8 * s.size) c) ∧ BMade w A (8 * s.size) c (bitsOf s.data.toList) w'

set_option maxHeartbeats 1000000 in
theorem of (s : ByteArray) (w : World) (hs : s.size ≤ 1073741824) : Calls Tryd.prog 18 #[.string s] w (OfPost w s) := by
  have b1 : (s.size : Int) ≤ 1073741824 := by omega
  go_enter Tryd.func18, Tryd.ntmps18
  go_wp2_with fail
  go_loopg [3, 4] s.size (fun gk o i wx => ∃ (k : Nat) (A : Option Addr) (c : Nat), i = .int .i64 k ∧ o = .slice A (8 * k) c ∧ k + gk ≤ s.size ∧ s.size ≤ k + gk ∧ BMade w A (8 * k) c (bitsOf (s.data.toList.take k)) wx)
  case atStart => exact ⟨0, none, 0, rfl, rfl, by omega, by omega, BRow.nil 5 w, Only.refl _ w, by rintro j ⟨ad, e, _⟩; cases e⟩
  case round =>
    obtain ⟨k, A, c, rfl, rfl, hk, hk2, hM⟩ := hrel
    have HM := Lib.hid hM
    clear hM
    by_cases hlt : k < s.size
    · obtain ⟨x, hx⟩ : ∃ x, s[k] = x := ⟨_, rfl⟩
      have hx2 : s.data.toList[k]? = some x := by rw [← hx, List.getElem?_eq_getElem (by simpa using hlt)]; rfl
      have hxl : x.toNat < 256 := x.toNat_lt
      have HX := Lib.hid hx2
      clear hx2
      go_wp2_with fail
      go_loopg [3, 5, 6] 8 (fun gj o n i wx => ∃ (j : Nat) (A : Option Addr) (c : Nat), i = .int .i64 j ∧ n = .int .i64 (x.toNat / 2 ^ j : Nat) ∧ o = .slice A (8 * k + j) c ∧ j + gj ≤ 8 ∧ 8 ≤ j + gj ∧ BMade w A (8 * k + j) c (bitsOf (s.data.toList.take k) ++ nb x.toNat j) wx)
      case atStart => exact ⟨0, A, c, rfl, by simp, rfl, by omega, by omega, by simpa [nb] using HM.out⟩
      case round =>
        obtain ⟨j, A, c, rfl, rfl, rfl, hj, hj2, hM⟩ := hrel
        clear HM
        have HM := Lib.hid hM
        have hq : x.toNat / 2 ^ j < 256 := Nat.lt_of_le_of_lt (Nat.div_le_self _ _) hxl
        obtain ⟨q, hq1⟩ : ∃ q, x.toNat / 2 ^ j = q := ⟨_, rfl⟩
        rw [hq1] at hq ⊢
        have HQ := Lib.hid hq1
        obtain ⟨cb, hby, hcb⟩ : ∃ cb : UInt8, (q : Int) % 2 = (cb.toNat : Int) ∧ cb = UInt8.ofNat (q % 2) := ⟨UInt8.ofNat (q % 2), by rw [UInt8.toNat_ofNat']; omega, rfl⟩
        have Hcb := Lib.hid hcb
        clear hM hq1 hcb
        by_cases hjl : j < 8
        · go_wp2_with (at_builtin
                       refine wpList_append_brow rfl (.tmp 21) (.tmp 25) 40 40 5 rfl Tryd.underlying40 info5 A (8 * k + j) c 1 _ [cb] (.slice (some ⟨wr.heap.size, 0, none⟩) 1 1) rfl rfl (HM.out.1.alloc _) rfl (Src.oneByte Tryd.underlying40 wr cb 1 5) (by omega) ?_
                       intro A2 c2 w2 hrow2 honly2 hlies2
                       have HM2 := Lib.hid (HM.out.append hrow2 honly2 hlies2)
                       clear hrow2 honly2 hlies2)
          go_roundg (gk - 1)
          case measure => omega
          case rel =>
            refine ⟨j + 1, A2, c2, by go_num, ?_, rfl, by omega, by omega, ?_⟩
            · have : x.toNat / 2 ^ (j + 1) = q / 2 := by rw [Nat.pow_succ, ← Nat.div_div_eq_div_mul, HQ.out]
              rw [this]
              go_num
            · rw [nb_succ, ← List.append_assoc, HQ.out, ← Hcb.out]
              exact HM2.out
        · obtain rfl : j = 8 := by omega
          go_wp2_with fail
          go_roundg (s.size - (k + 1))
          case measure => omega
          case rel =>
            refine ⟨k + 1, A, c, by go_num, ?_, by omega, by omega, ?_⟩
            · rfl
            · rw [bitsOf_snoc _ _ _ HX.out]
              exact HM.out
    · obtain rfl : k = s.size := by omega
      go_wp2
      go_ret
      refine ⟨A, c, rfl, ?_⟩
      have e : s.data.toList.take s.size = s.data.toList := List.take_of_length_le (by simp)
      rw [e] at HM
      exact HM.out
end Go.Proofs.YtackcgiokkbhdaaDoor
