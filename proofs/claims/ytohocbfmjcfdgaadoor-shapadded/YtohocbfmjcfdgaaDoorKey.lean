/- Layer 4: the program's key of a text, as eight words. -/
import Derived.Test.YtohocbfmjcfdgaaDoorPad
import Derived.StillTailTactics
namespace Go.Proofs.YtohocbfmjcfdgaaDoor
open Go.RowKit

theorem Tab.range {w : World} (h : Tab w) : w.rangeAt 0 0 (nums first.list) := fun j v hv => by
  have hj : j < 8 := by
    rcases Nat.lt_or_ge j 8 with hh | hh
    · exact hh
    · rw [List.getElem?_eq_none (by rw [nums_length]; exact hh)] at hv; cases hv
  rw [nums_at _ _ hj] at hv
  rw [Nat.zero_add, ← hv]
  exact h.2.2 j hj
theorem pad_split (l : List UInt8) : pad l = l.take (64 * (l.length / 64)) ++ (l.drop (64 * (l.length / 64)) ++ behind (l.length % 64) l.length) := by
  have e : behind (l.length % 64) l.length = behind l.length l.length := by
    unfold behind fill
    rw [Nat.mod_mod]
  rw [e, ← List.append_assoc, List.take_append_drop]
  rfl
theorem part_left (a b : List UInt8) (k : Nat) (h : 64 * k + 64 ≤ a.length) : part (a ++ b) k = part a k := by
  unfold part
  rw [List.drop_append_of_le_length (by omega), List.take_append_of_le_length (by simp; omega)]
theorem part_right (a b : List UInt8) (q k : Nat) (h : a.length = 64 * q) : part (a ++ b) (q + k) = part b k := by
  unfold part
  rw [show 64 * (q + k) = a.length + 64 * k from by omega, ← List.drop_drop, List.drop_left]
theorem part_pad (l : List UInt8) (k : Nat) (h : k < l.length / 64) : part (pad l) k = part l k := by
  unfold pad
  exact part_left _ _ _ (by omega)

theorem mixs (st : St) (s : ByteArray) (w : World) (hok : st.Ok) (hs : s.size = 64) (hT : Tab w) :
    Calls Tryd.prog 18 #[.agg #[.int .u32 (st.a : Nat), .int .u32 (st.b : Nat), .int .u32 (st.c : Nat), .int .u32 (st.d : Nat), .int .u32 (st.e : Nat), .int .u32 (st.f : Nat), .int .u32 (st.g : Nat), .int .u32 (st.h : Nat)], .string s] w (MixPost w st s.data.toList) :=
  mix st s w hok hs hT
theorem list8 (st : St) : (nums st.list).length = 8 := rfl
/-- The eight words lie in the second block, none yet in the first. -/
def Held (w : World) (st : St) (wx : World) : Prop := Is wx (w.heap.size + 1) 35 (nums st.list) ∧ Is wx w.heap.size 35 (List.replicate 8 (.int .u32 0)) ∧ Only (fun _ => False) w wx
theorem Held.only {w wx wy : World} {st : St} (h : Held w st wx) (k : Only (fun _ => False) wx wy) : Held w st wy := ⟨h.1.only k id, h.2.1.only k id, h.2.2.trans k⟩
theorem Held.step {w wx w3 w4 : World} {st st' : St} (h : Held w st wx) (h3 : Only (fun _ => False) wx.drew w3) (i4 : Is w4 (w.heap.size + 1) 35 (nums st'.list)) (o4 : Only (fun j => j = w.heap.size + 1) w3 w4) : Held w st' w4 :=
  ⟨i4, (h.2.1.drew.only h3 id).only o4 (by omega), (h.2.2.drew.trans h3).andThen o4 (by intro j hj; right; omega)⟩

def KeyPost (w : World) (l : List UInt8) (e : Ending) (w' : World) : Prop := e = .returned (.agg (nums (keyOf l).list).toArray) ∧ Only (fun _ => False) w w'

set_option maxHeartbeats 1000000 in
theorem key (s : ByteArray) (w : World) (hs : s.size ≤ 1073741824) (hT : Tab w) : Calls Tryd.prog 15 #[.string s] w (KeyPost w s.data.toList) := by
  obtain ⟨q, hq⟩ : ∃ q, s.size / 64 = q := ⟨_, rfl⟩
  obtain ⟨r, hr⟩ : ∃ r, s.size % 64 = r := ⟨_, rfl⟩
  have hqr : s.size = 64 * q + r := by omega
  have hrl : r < 64 := by omega
  have t1 : (s.size : Int).tmod 64 = (r : Int) := by rw [← hr, Int.tmod_eq_emod_of_nonneg (by omega)]; rfl
  have t2 : (s.size : Int) % 64 = (r : Int) := by omega
  obtain ⟨z, hz⟩ : ∃ z, 64 * q = z := ⟨_, rfl⟩
  have t3 : (s.size : Int) - (r : Int) = (z : Int) := by omega
  have HT := Lib.hid hT
  have HQR := Lib.hid hqr
  have HZ := Lib.hid hz
  clear hT hq hr hqr hz
  go_enter Tryd.func15, Tryd.ntmps15
  go_wp2_with (first
    | ((with_reducible show wpList _ _ _ (Oper.mk _ (Op.load _ _) _ _ _ _ :: _) _ _)
       refine wpList_load_mid rfl 35 (.global 0) rfl 0 0 rfl (nums first.list) _ (HT.out.new ((Only.refl _ w).alloc _)).range Tryd.underlying35 rfl info35 ?_)
    | ((with_reducible show wpList _ _ _ (Oper.mk _ (Op.store _ _ _) _ _ _ _ :: _) _ _)
       refine wpList_store_is rfl 35 (.tmp 3) (.tmp 8) rfl (w.heap.size + 1) (nums first.list) rfl rfl 35 _ (Is.new2 w _ 35 (List.replicate 8 (.int .u32 0))) info35 rfl (nums_one _) ?_
       intro w2 i2 o2))
  have b0 : Is w2 w.heap.size 35 (List.replicate 8 (.int .u32 0)) := ((Is.new w 35 (List.replicate 8 (.int .u32 0))).alloc _).only o2 (by omega)
  have b1 : Only (fun _ => False) w w2 := (((Only.refl _ w).alloc _).alloc _).andThen o2 (by intro j hj; right; omega)
  have HI := Lib.hid (And.intro i2 (And.intro b0 b1))
  clear i2 b0 b1 o2
  go_loopg [5] q (fun gk i wx => ∃ k y : Nat, i = .int .i64 y ∧ y = 64 * k ∧ k + gk ≤ q ∧ q ≤ k + gk ∧ Held w (blocks (pad s.data.toList) first k) wx)
  case atStart => exact ⟨0, 0, rfl, by omega, by omega, by omega, HI.out⟩
  case round =>
    obtain ⟨k, y, rfl, hy, hk, hk2, hI⟩ := hrel
    clear HI
    have hqr := HQR.out
    have hz := HZ.out
    by_cases hlt : k < q
    · have hnx : blocks (pad s.data.toList) first (k + 1) = block (blocks (pad s.data.toList) first k) (part (pad s.data.toList) k) := rfl
      have hok := blocks_ok (pad s.data.toList) first_ok k
      have hpt : (s.extract y (y + 64)).data.toList = part (pad s.data.toList) k := by
        rw [Lib.extract_data, part_pad _ _ (by simp; omega), hy, Nat.add_sub_cancel_left]
        rfl
      have hsz : (s.extract y (y + 64)).size = 64 := by simp; omega
      obtain ⟨S, hS⟩ : ∃ S, blocks (pad s.data.toList) first k = S := ⟨_, rfl⟩
      rw [hS] at hI hnx hok
      obtain ⟨y2, hy2⟩ : ∃ y2, y + 64 = y2 := ⟨_, rfl⟩
      rw [hy2] at hpt hsz
      have e1 : (y : Int) + 64 = (y2 : Int) := by omega
      have e2 : (y : Int) < (z : Int) := by omega
      have e3 : y2 ≤ s.size := by omega
      have e4 : y ≤ y2 := by omega
      have e5 : (y2 : Int) ≤ (s.size : Int) := by omega
      have e6 : (y : Int) ≤ (y2 : Int) := by omega
      have c0 := hI.1.cell 0 rfl
      have c1 := hI.1.cell 1 rfl
      have c2 := hI.1.cell 2 rfl
      have c3 := hI.1.cell 3 rfl
      have c4 := hI.1.cell 4 rfl
      have c5 := hI.1.cell 5 rfl
      have c6 := hI.1.cell 6 rfl
      have c7 := hI.1.cell 7 rfl
      obtain ⟨S2, hS2⟩ : ∃ S2, blocks (pad s.data.toList) first (k + 1) = S2 := ⟨_, rfl⟩
      have C := mixs S (s.extract y y2) wr.drew hok hsz (HT.out.new hI.2.2.drew)
      unfold MixPost at C
      rw [hpt, ← hnx, hS2] at C
      clear hnx
      have HC := Lib.hid C
      have HI := Lib.hid hI
      have HS2 := Lib.hid hS2
      have f1 := wrap_small y (by omega)
      have f2 := wrap_small y2 (by omega)
      have HY := Lib.hid hy
      have HY2 := Lib.hid hy2
      clear C hI hpt hsz hS hok hqr hz hy2 hy hS2
      go_wp2_with fail
      go_still_tail 6, (by kernel_rfl)
      change wpList _ _ _ _ _ wr.drew
      go_wp2_with fail
      refine HC.out.mono ?_
      rintro x w3 ⟨rfl, hO3⟩
      go_wp2_with ((with_reducible show wpList _ _ _ (Oper.mk _ (Op.store _ _ _) _ _ _ _ :: _) _ _)
                   refine wpList_store_is rfl 35 (.tmp 3) (.tmp 26) rfl (w.heap.size + 1) (nums S2.list) rfl rfl 35 (nums S.list) (HI.out.1.drew.only hO3 id) (by rw [list8]; exact info35) (by rw [list8, list8]) (nums_one _) ?_
                   intro w4 i4 o4)
      go_roundg (gk - 1)
      case measure => omega
      case rel =>
        have hy := HY.out
        have hy2 := HY2.out
        refine ⟨k + 1, y2, rfl, by omega, by omega, by omega, ?_⟩
        rw [HS2.out]
        exact HI.out.step hO3 i4 o4
    · obtain rfl : k = q := by omega
      obtain rfl : y = z := by omega
      have hsp := pad_split s.data.toList
      have hxl : (s.extract y s.size).data.toList = s.data.toList.drop y := by
        rw [Lib.extract_data]
        exact List.take_of_length_le (by simp)
      have hxs : (s.extract y s.size).size = r := by simp; omega
      have C := padded (s.extract y s.size) s.size wr (by omega) hs
      unfold PadPost at C
      rw [hxl] at C
      have e1 : s.data.toList.length / 64 = k := by simp; omega
      have e2 : s.data.toList.length % 64 = r := by simp; omega
      have e3 : (s.data.toList.drop y).length = r := by simp; omega
      have e4 : s.data.toList.length = s.size := by simp
      rw [e1, e2, e4, hz] at hsp
      rw [e3] at C
      obtain ⟨RL, hRL⟩ : ∃ RL, s.data.toList.drop y ++ behind r s.size = RL := ⟨_, rfl⟩
      rw [hRL] at C hsp
      obtain ⟨F, hF⟩ : ∃ F, s.data.toList.take y = F := ⟨_, rfl⟩
      have hFl : F.length = 64 * k := by rw [← hF]; simp; omega
      rw [hF] at hsp
      obtain ⟨R, hR⟩ : ∃ R : ByteArray, (⟨RL.toArray⟩ : ByteArray) = R := ⟨_, rfl⟩
      have hRd : R.data.toList = RL := by rw [← hR]
      have hRs : R.size = RL.length := by rw [← hR]; rfl
      have hpl := pad_length s.data.toList
      rw [hsp, List.length_append, hFl] at hpl
      obtain ⟨m, hm⟩ : ∃ m, RL.length / 64 = m := ⟨_, rfl⟩
      have hRm : R.size = 64 * m := by omega
      have hRb : R.size ≤ 200 := by
        have := behind_length r s.size
        have h2 : RL.length = r + (9 + fill r) := by rw [← hRL, List.length_append, e3, this]
        have h3 : fill r < 64 := Nat.mod_lt _ (by decide)
        omega
      have hkey : keyOf s.data.toList = blocks (F ++ RL) first (k + m) := by
        unfold keyOf
        rw [hsp, List.length_append, hFl]
        congr 1
        omega
      rw [hR] at C
      rw [hsp] at hI
      have HC := Lib.hid C
      have HI := Lib.hid hI
      have HRD := Lib.hid hRd
      have HRM := Lib.hid hRm
      have HFL := Lib.hid hFl
      have HKEY := Lib.hid hkey
      clear C hI hsp hxl hxs e1 e2 e3 e4 hRL hF hFl hR hRd hRs hpl hm hRm hkey hlt hk hk2 HZ hz hy hqr HQR
      go_wp2_with fail
      refine HC.out.mono ?_
      rintro x w3 ⟨rfl, hO3⟩
      have hI3 := HI.out.only hO3
      clear HI HC hO3
      have HI := Lib.hid hI3
      clear hI3
      go_wp2_with fail
      go_loopg [7] m (fun gk i wx => ∃ j y : Nat, i = .int .i64 y ∧ y = 64 * j ∧ j + gk ≤ m ∧ m ≤ j + gk ∧ Held w (blocks (F ++ RL) first (k + j)) wx)
      case atStart => exact ⟨0, 0, rfl, by omega, by omega, by omega, HI.out⟩
      case round =>
        obtain ⟨j, y, rfl, hy, hk, hk2, hI⟩ := hrel
        clear HI
        have hRm := HRM.out
        by_cases hlt : j < m
        · have hnx : blocks (F ++ RL) first (k + j + 1) = block (blocks (F ++ RL) first (k + j)) (part (F ++ RL) (k + j)) := rfl
          have hok := blocks_ok (F ++ RL) first_ok (k + j)
          have hpt : (R.extract y (y + 64)).data.toList = part (F ++ RL) (k + j) := by
            rw [Lib.extract_data, part_right _ _ _ _ HFL.out, hy, Nat.add_sub_cancel_left, HRD.out]
            rfl
          have hsz : (R.extract y (y + 64)).size = 64 := by simp; omega
          obtain ⟨S, hS⟩ : ∃ S, blocks (F ++ RL) first (k + j) = S := ⟨_, rfl⟩
          rw [hS] at hI hnx hok
          obtain ⟨y2, hy2⟩ : ∃ y2, y + 64 = y2 := ⟨_, rfl⟩
          rw [hy2] at hpt hsz
          have e1 : (y : Int) + 64 = (y2 : Int) := by omega
          have e2 : (y : Int) < (R.size : Int) := by omega
          have e3 : y2 ≤ R.size := by omega
          have e4 : y ≤ y2 := by omega
          have e5 : (y2 : Int) ≤ (R.size : Int) := by omega
          have e6 : (y : Int) ≤ (y2 : Int) := by omega
          have c0 := hI.1.cell 0 rfl
          have c1 := hI.1.cell 1 rfl
          have c2 := hI.1.cell 2 rfl
          have c3 := hI.1.cell 3 rfl
          have c4 := hI.1.cell 4 rfl
          have c5 := hI.1.cell 5 rfl
          have c6 := hI.1.cell 6 rfl
          have c7 := hI.1.cell 7 rfl
          obtain ⟨S2, hS2⟩ : ∃ S2, blocks (F ++ RL) first (k + j + 1) = S2 := ⟨_, rfl⟩
          have C := mixs S (R.extract y y2) wr.drew hok hsz (HT.out.new hI.2.2.drew)
          unfold MixPost at C
          rw [hpt, ← hnx, hS2] at C
          clear hnx
          have HC := Lib.hid C
          have HI := Lib.hid hI
          have HS2 := Lib.hid hS2
          have f1 := wrap_small y (by omega)
          have f2 := wrap_small y2 (by omega)
          have HY := Lib.hid hy
          have HY2 := Lib.hid hy2
          clear C hI hpt hsz hS hok hRm hy2 hy hS2
          go_wp2_with fail
          go_still_tail 6, (by kernel_rfl)
          change wpList _ _ _ _ _ wr.drew
          go_wp2_with fail
          refine HC.out.mono ?_
          rintro x w3 ⟨rfl, hO3⟩
          go_wp2_with ((with_reducible show wpList _ _ _ (Oper.mk _ (Op.store _ _ _) _ _ _ _ :: _) _ _)
                       refine wpList_store_is rfl 35 (.tmp 3) (.tmp 46) rfl (w.heap.size + 1) (nums S2.list) rfl rfl 35 (nums S.list) (HI.out.1.drew.only hO3 id) (by rw [list8]; exact info35) (by rw [list8, list8]) (nums_one _) ?_
                       intro w4 i4 o4)
          go_roundg (gk - 1)
          case measure => omega
          case rel =>
            have hy := HY.out
            have hy2 := HY2.out
            refine ⟨j + 1, y2, rfl, by omega, by omega, by omega, ?_⟩
            rw [← Nat.add_assoc, HS2.out]
            exact HI.out.step hO3 i4 o4
        · obtain rfl : j = m := by omega
          have e2 : (y : Int) = (R.size : Int) := by omega
          rw [← HKEY.out] at hI
          have HI := Lib.hid hI
          clear hI hRm
          obtain ⟨S, hS⟩ : ∃ S, keyOf s.data.toList = S := ⟨_, rfl⟩
          rw [hS] at HI
          have HS := Lib.hid hS
          clear hS
          go_wp2_with (first
            | ((with_reducible show wpList _ _ _ (Oper.mk _ (Op.load _ _) _ _ _ _ :: _) _ _)
               refine wpList_load_is rfl 35 (.tmp 3) rfl (w.heap.size + 1) rfl 35 _ HI.out.1 Tryd.underlying35 (by rw [list8]; exact info35) ?_)
            | ((with_reducible show wpList _ _ _ (Oper.mk _ (Op.store _ _ _) _ _ _ _ :: _) _ _)
               refine wpList_store_is rfl 35 (.tmp 2) (.tmp 47) rfl w.heap.size (nums S.list) rfl rfl 35 _ HI.out.2.1 (by rw [list8]; exact info35) (by rw [list8]; rfl) (nums_one _) ?_
               intro w5 i5 o5))
          refine bodyPost_ret (results_cell_row rfl _ _ w.heap.size 35 _ (0, 0) _ rfl i5 Tryd.underlying35 rfl (by rw [List.size_toArray, list8]; exact info35)) rfl ?_
          exact ⟨by rw [HS.out], HI.out.2.2.andThen o5 (by intro j hj; right; omega)⟩
end Go.Proofs.YtohocbfmjcfdgaaDoor
