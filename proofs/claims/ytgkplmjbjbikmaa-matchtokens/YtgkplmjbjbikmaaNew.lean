/- Layer 9, the program: a new trail. -/
import Derived.Test.YtgkplmjbjbikmaaLook
import Derived.Test.YtgkplmjbjbikmaaShelf
import Derived.Test.YtgkplmjbjbikmaaSteps
import Derived.Laws.MakeOwn
namespace Go.Proofs.Ytgkplmjbjbikmaa
open Go.RowKit

theorem info3 : (Try.prog.info? 3).map (fun i => (i.zero, i.size, i.bytes)) = some (some (.int .i64 0), 1, 8) := by kernel_rfl
/-- make: a row of zeros. -/
theorem run_make_row {P : Program} {t e : TypeId} {kd : IntKind} {B : Nat} (ht : P.underlying t = some (.slice e)) (hi : (P.info? e).map (fun i => (i.zero, i.size, i.bytes)) = some (some (.int kd 0), 1, B)) (hB : B ≤ 8) (k : Nat) (hk : k ≤ 1073741824) (w : World) :
    (Instr.makeSlice t (.int .i64 k) (.int .i64 k)).run P w = .ok (.slice (some ⟨w.heap.size, 0, none⟩) k k) (w.alloc (.cells (List.replicate k (.int kd 0)).toArray e)) := by
  obtain ⟨i, hi, hz, hsz, hby⟩ := info_parts hi
  have hfit : B * k ≤ 8 * k := Nat.mul_le_mul_right _ hB
  have h := run_make (P := P) w t e i (.int kd 0) ht hi hz .i64 .i64 k k (by omega) (by omega) (by rw [hby]; omega) (by omega)
  have e1 : madeCells (Value.int kd 0).cells (k * 1) = (List.replicate k (Value.int kd 0)).toArray := by
    apply Array.ext'
    rw [Value.cells, toList_madeCells_one]
    · simp
    all_goals intros; simp_all
  rw [Int.toNat_natCast, hsz, e1] at h
  exact h
/-- A trail with no place kept. -/
def st0 (W n : Nat) : St := ⟨List.replicate W 0, List.replicate n 0, 0⟩
theorem getD_zeros (n i : Nat) : (List.replicate n 0).getD i 0 = 0 := by
  rw [List.getD_eq_getElem?_getD, List.getElem?_replicate]
  split <;> rfl
theorem good0 (L : List UInt8) (W : Nat) : Good L W (st0 W L.length) :=
  ⟨by simp [st0], by simp [st0], fun i => by simp only [st0]; rw [getD_zeros]; exact Nat.le_refl _, fun j => by simp only [st0]; rw [getD_zeros]; exact Nat.zero_le _⟩
theorem nats_zeros (n : Nat) : nats (List.replicate n 0) = List.replicate n (Value.int .i64 0) := by simp [nats]
/-- What a new trail is. -/
def NewPost (w : World) (s : ByteArray) (e : Ending) (w' : World) : Prop :=
  ∃ T N O wd W, e = .returned (.pointer (some ⟨T, 0, none⟩)) ∧ Tr w' T N O s wd W (st0 W s.size) ∧ Only (fun _ => False) w w' ∧ w.heap.size ≤ T ∧ w.heap.size ≤ N ∧ w.heap.size ≤ O

set_option maxHeartbeats 2000000 in
theorem newTrail (s : ByteArray) (w : World) (hs : s.size ≤ 16777216) : Calls Try.prog 16 #[.string s] w (NewPost w s) := by
  have b1 : (s.size : Int) ≤ 16777216 := by omega
  obtain ⟨q, hq⟩ : ∃ q, Lib.bitLen s.size = q := ⟨_, rfl⟩
  obtain ⟨wd, hwd⟩ : ∃ wd, min q 15 = wd := ⟨_, rfl⟩
  have hwd2 : wd ≤ 15 := by omega
  obtain ⟨W, hW⟩ : ∃ W, 2 ^ wd = W := ⟨_, rfl⟩
  have hW2 : W ≤ 32768 := by
    have := Nat.pow_le_pow_right (n := 2) (by decide) hwd2
    rw [hW] at this
    omega
  have HQ := Lib.hid hq
  have hL : Hid (∀ w1 : World, Calls Try.prog 19 #[.int .u64 s.size] w1 fun e w' => e = .returned (.int .i64 q) ∧ w' = w1) := Lib.hid (fun w1 => by
    have := Try.bits_Len s.size w1 (by omega) (by omega)
    rw [Int.toNat_natCast, hq] at this
    exact this)
  have e0 : IntKind.i64.wrap (2 ^ wd) = (W : Int) := by
    have : ((2 : Int) ^ wd) = ((2 ^ wd : Nat) : Int) := by simp
    rw [this, hW]
    exact IntWalk.i64_in _ (by omega)
  have m1 : ∀ w1 : World, (Instr.makeSlice 51 (.int .i64 (W : Nat)) (.int .i64 (W : Nat))).run Try.prog w1 = .ok (.slice (some ⟨w1.heap.size, 0, none⟩) W W) (w1.alloc (.cells (List.replicate W (.int .i64 0)).toArray 3)) := fun w1 => run_make_row Try.underlying51 info3 (by decide) W (by omega) w1
  have m2 : ∀ w1 : World, (Instr.makeSlice 51 (.int .i64 (s.size : Nat)) (.int .i64 (s.size : Nat))).run Try.prog w1 = .ok (.slice (some ⟨w1.heap.size, 0, none⟩) s.size s.size) (w1.alloc (.cells (List.replicate s.size (.int .i64 0)).toArray 3)) := fun w1 => run_make_row Try.underlying51 info3 (by decide) s.size (by omega) w1
  have M1 := Lib.hid m1
  have M2 := Lib.hid m2
  clear m1 m2 hq
  have g1 : min (q : Int) 15 = (wd : Int) := by omega
  clear hwd
  go_enter Try.func16, Try.ntmps16
  go_upto_region 2 with (go_at_call 19; refine (hL.out _).mono ?_; rintro e w1 ⟨rfl, rfl⟩)
  obtain ⟨B, hB⟩ : ∃ B, w1.heap.size = B := ⟨_, rfl⟩
  refine Walk.region (fun _ => True) (.t 0 (.t 1 (.t 2 (.t 3 (.t 5 (.t 6 (.two 4 7 (.f 7 (.t 8 (.f 9 (.t 10 .nil)))) (.f 4 (.t 8 (.f 9 (.t 10 .nil))))))))))) (by kernel_rfl) (by kernel_rfl) (by kernel_rfl) (fun _ _ d _ _ h => by cases d <;> exact h) ?_
  refine Walk.take (.string s) rfl trivial (fun _ _ => by kernel_rfl) ?_
  simp only [Act.put, List.setIfInBounds_toArray, List.set_cons_succ, List.set_cons_zero]
  refine Walk.take (.int .i64 wd) rfl trivial (fun _ _ => by kernel_rfl) ?_
  simp only [Act.put, List.setIfInBounds_toArray, List.set_cons_succ, List.set_cons_zero]
  refine Walk.take (.int .i64 wd) rfl trivial (fun _ _ => by kernel_rfl) ?_
  simp only [Act.put, List.setIfInBounds_toArray, List.set_cons_succ, List.set_cons_zero]
  refine Walk.take (.int .i64 W) rfl trivial (fun _ _ => by go_simp) ?_
  simp only [Act.put, List.setIfInBounds_toArray, List.set_cons_succ, List.set_cons_zero]
  refine Walk.take (.string s) rfl trivial (fun _ _ => by kernel_rfl) ?_
  simp only [Act.put, List.setIfInBounds_toArray, List.set_cons_succ, List.set_cons_zero]
  refine Walk.take (.int .i64 s.size) rfl trivial (fun _ _ => by kernel_rfl) ?_
  simp only [Act.put, List.setIfInBounds_toArray, List.set_cons_succ, List.set_cons_zero]
  constructor
  · refine op_value (w' := w1.drew.alloc (.cells (List.replicate W (Value.int .i64 0)).toArray 3)) (.slice (some ⟨B, 0, none⟩) W W) rfl (by go_simp; rw [M1.out, ← hB]; rfl) ⟨trivial, ?_⟩
    simp only [Act.put, List.setIfInBounds_toArray, List.set_cons_succ, List.set_cons_zero]
    obtain ⟨wa, hwa⟩ : ∃ wa, w1.drew.alloc (.cells (List.replicate W (Value.int .i64 0)).toArray 3) = wa := ⟨_, rfl⟩
    have haB : wa.heap.size = B + 1 := by rw [← hwa, ← hB]; simp
    have ia : Is wa B 3 (List.replicate W (Value.int .i64 0)) := by rw [← hwa, ← hB]; exact Is.new w1.drew 3 _
    have oa : Only (fun _ => False) w1 wa := by rw [← hwa]; exact ((Only.refl _ w1).drew).alloc _
    rw [hwa]
    clear hwa
    refine op_value (w' := wa.alloc (.cells (List.replicate s.size (Value.int .i64 0)).toArray 3)) (.slice (some ⟨B + 1, 0, none⟩) s.size s.size) rfl (by go_simp; rw [M2.out, ← haB]; rfl) ⟨trivial, ?_⟩
    simp only [Act.put, List.setIfInBounds_toArray, List.set_cons_succ, List.set_cons_zero]
    obtain ⟨wb, hwb⟩ : ∃ wb, wa.alloc (.cells (List.replicate s.size (Value.int .i64 0)).toArray 3) = wb := ⟨_, rfl⟩
    have hbB : wb.heap.size = B + 2 := by rw [← hwb]; simp [haB]
    have ib : Is wb B 3 (List.replicate W (Value.int .i64 0)) := by rw [← hwb]; exact ia.alloc _
    have jb : Is wb (B + 1) 3 (List.replicate s.size (Value.int .i64 0)) := by rw [← hwb, ← haB]; exact Is.new wa 3 _
    have ob : Only (fun _ => False) w1 wb := by rw [← hwb]; exact oa.alloc _
    rw [hwb]
    clear hwb
    refine Walk.take (.agg #[.string s, .int .i64 wd, .slice (some ⟨B, 0, none⟩) W W, .slice (some ⟨(B + 1), 0, none⟩) s.size s.size, .int .i64 0]) rfl trivial (fun _ _ => by kernel_rfl) ?_
    simp only [Act.put, List.setIfInBounds_toArray, List.set_cons_succ, List.set_cons_zero]
    refine op_value (w' := wb.alloc (.cells #[.string s, .int .i64 wd, .slice (some ⟨B, 0, none⟩) W W, .slice (some ⟨(B + 1), 0, none⟩) s.size s.size, .int .i64 0] 53)) (.pointer (some ⟨B + 2, 0, none⟩)) rfl (by go_simp) ⟨trivial, ?_⟩
    simp only [Act.put, List.setIfInBounds_toArray, List.set_cons_succ, List.set_cons_zero]
    have HT : Hid (Tr (wb.alloc (.cells #[.string s, .int .i64 wd, .slice (some ⟨B, 0, none⟩) W W, .slice (some ⟨(B + 1), 0, none⟩) s.size s.size, .int .i64 0] 53)) (B + 2) B (B + 1) s wd W (st0 W s.size)) := Lib.hid (by
      refine ⟨?_, ?_, ?_, by omega, by omega, by omega, good0 s.data.toList W, hwd2, hW, hs⟩
      · rw [← hbB]; exact Is.new wb 53 _
      · simp only [st0]; rw [nats_zeros]; exact ib.alloc _
      · simp only [st0]; rw [nats_zeros]; exact jb.alloc _)
    have HO : Hid (Only (fun _ => False) w1 (wb.alloc (.cells #[.string s, .int .i64 wd, .slice (some ⟨B, 0, none⟩) W W, .slice (some ⟨(B + 1), 0, none⟩) s.size s.size, .int .i64 0] 53))) := Lib.hid (ob.alloc _)
    obtain ⟨wc, hwc⟩ : ∃ wc, wb.alloc (.cells #[.string s, .int .i64 wd, .slice (some ⟨B, 0, none⟩) W W, .slice (some ⟨(B + 1), 0, none⟩) s.size s.size, .int .i64 0] 53) = wc := ⟨_, rfl⟩
    rw [hwc] at HT HO ⊢
    clear hwc ia ib jb oa ob
    refine Walk.take (.pointer (some ⟨B + 2, 0, none⟩)) rfl trivial (fun _ _ => by kernel_rfl) ?_
    simp only [Act.put, List.setIfInBounds_toArray, List.set_cons_succ, List.set_cons_zero]
    show wpList _ _ _ _ _ _
    go_wp2
    go_ret
    exact ⟨B + 2, B, (B + 1), wd, W, rfl, HT.out, HO.out, by omega, by omega, by omega⟩
  · refine op_value (w' := w1.drew.alloc (.cells (List.replicate s.size (Value.int .i64 0)).toArray 3)) (.slice (some ⟨B, 0, none⟩) s.size s.size) rfl (by go_simp; rw [M2.out, ← hB]; rfl) ⟨trivial, ?_⟩
    simp only [Act.put, List.setIfInBounds_toArray, List.set_cons_succ, List.set_cons_zero]
    obtain ⟨wa, hwa⟩ : ∃ wa, w1.drew.alloc (.cells (List.replicate s.size (Value.int .i64 0)).toArray 3) = wa := ⟨_, rfl⟩
    have haB : wa.heap.size = B + 1 := by rw [← hwa, ← hB]; simp
    have ia : Is wa B 3 (List.replicate s.size (Value.int .i64 0)) := by rw [← hwa, ← hB]; exact Is.new w1.drew 3 _
    have oa : Only (fun _ => False) w1 wa := by rw [← hwa]; exact ((Only.refl _ w1).drew).alloc _
    rw [hwa]
    clear hwa
    refine op_value (w' := wa.alloc (.cells (List.replicate W (Value.int .i64 0)).toArray 3)) (.slice (some ⟨B + 1, 0, none⟩) W W) rfl (by go_simp; rw [M1.out, ← haB]; rfl) ⟨trivial, ?_⟩
    simp only [Act.put, List.setIfInBounds_toArray, List.set_cons_succ, List.set_cons_zero]
    obtain ⟨wb, hwb⟩ : ∃ wb, wa.alloc (.cells (List.replicate W (Value.int .i64 0)).toArray 3) = wb := ⟨_, rfl⟩
    have hbB : wb.heap.size = B + 2 := by rw [← hwb]; simp [haB]
    have ib : Is wb B 3 (List.replicate s.size (Value.int .i64 0)) := by rw [← hwb]; exact ia.alloc _
    have jb : Is wb (B + 1) 3 (List.replicate W (Value.int .i64 0)) := by rw [← hwb, ← haB]; exact Is.new wa 3 _
    have ob : Only (fun _ => False) w1 wb := by rw [← hwb]; exact oa.alloc _
    rw [hwb]
    clear hwb
    refine Walk.take (.agg #[.string s, .int .i64 wd, .slice (some ⟨(B + 1), 0, none⟩) W W, .slice (some ⟨B, 0, none⟩) s.size s.size, .int .i64 0]) rfl trivial (fun _ _ => by kernel_rfl) ?_
    simp only [Act.put, List.setIfInBounds_toArray, List.set_cons_succ, List.set_cons_zero]
    refine op_value (w' := wb.alloc (.cells #[.string s, .int .i64 wd, .slice (some ⟨(B + 1), 0, none⟩) W W, .slice (some ⟨B, 0, none⟩) s.size s.size, .int .i64 0] 53)) (.pointer (some ⟨B + 2, 0, none⟩)) rfl (by go_simp) ⟨trivial, ?_⟩
    simp only [Act.put, List.setIfInBounds_toArray, List.set_cons_succ, List.set_cons_zero]
    have HT : Hid (Tr (wb.alloc (.cells #[.string s, .int .i64 wd, .slice (some ⟨(B + 1), 0, none⟩) W W, .slice (some ⟨B, 0, none⟩) s.size s.size, .int .i64 0] 53)) (B + 2) (B + 1) B s wd W (st0 W s.size)) := Lib.hid (by
      refine ⟨?_, ?_, ?_, by omega, by omega, by omega, good0 s.data.toList W, hwd2, hW, hs⟩
      · rw [← hbB]; exact Is.new wb 53 _
      · simp only [st0]; rw [nats_zeros]; exact jb.alloc _
      · simp only [st0]; rw [nats_zeros]; exact ib.alloc _)
    have HO : Hid (Only (fun _ => False) w1 (wb.alloc (.cells #[.string s, .int .i64 wd, .slice (some ⟨(B + 1), 0, none⟩) W W, .slice (some ⟨B, 0, none⟩) s.size s.size, .int .i64 0] 53))) := Lib.hid (ob.alloc _)
    obtain ⟨wc, hwc⟩ : ∃ wc, wb.alloc (.cells #[.string s, .int .i64 wd, .slice (some ⟨(B + 1), 0, none⟩) W W, .slice (some ⟨B, 0, none⟩) s.size s.size, .int .i64 0] 53) = wc := ⟨_, rfl⟩
    rw [hwc] at HT HO ⊢
    clear hwc ia ib jb oa ob
    refine Walk.take (.pointer (some ⟨B + 2, 0, none⟩)) rfl trivial (fun _ _ => by kernel_rfl) ?_
    simp only [Act.put, List.setIfInBounds_toArray, List.set_cons_succ, List.set_cons_zero]
    show wpList _ _ _ _ _ _
    go_wp2
    go_ret
    exact ⟨B + 2, (B + 1), B, wd, W, rfl, HT.out, HO.out, by omega, by omega, by omega⟩
end Go.Proofs.Ytgkplmjbjbikmaa
