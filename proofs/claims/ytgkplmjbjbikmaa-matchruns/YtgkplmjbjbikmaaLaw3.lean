/- Layer 9: MatchRuns, the law's own walk. -/
import Derived.Test.YtgkplmjbjbikmaaLaw1
namespace Go.Proofs.Ytgkplmjbjbikmaa
open Go.RowKit

theorem toksOf_few (s : ByteArray) (c : UInt8) (k wd lvl : Nat) (hs : s.data.toList = List.replicate k c) (hwd : wd ≤ 15) (hl : 1 ≤ lvl) : (toksOf s wd lvl).length ≤ 4 + k / 258 := by
  have hL : s.data.toList.length = s.size := rfl
  have hk : s.size = k := by rw [← hL, hs, List.length_replicate]
  have hg := good0 s.data.toList (2 ^ wd)
  rw [hL] at hg
  have hat : ∀ i : Nat, i < k → s.data.toList.getD i 0 = c := fun i hi => by
    rw [hs, List.getD_eq_getElem?_getD, List.getElem?_replicate, if_pos hi]
    rfl
  have ho : One s.data.toList (markAt s.data.toList wd) (markN c c c wd) (st0 (2 ^ wd) s.size) := by
    refine ⟨fun i j hi hj => ?_, fun i hi => ?_, ?_, ?_⟩
    · rw [hat i (by omega), hat j (by omega)]
    · unfold markAt
      rw [hat i (by omega), hat (i + 1) (by omega), hat (i + 2) (by omega)]
    · simp only [st0]
      exact getD_zeros _ _
    · simp only [st0, List.length_replicate]
      exact (markN_is c c c wd (by omega)).2
  have h := toks_few lvl hl (st0 (2 ^ wd) s.size) s.size ho (by omega) hg rfl
  rw [hL, hk] at h
  unfold toksOf
  rw [hk]
  exact h

/-- A row of k bytes, of which the first j are c. -/
def fillL (c : UInt8) (k j : Nat) : List UInt8 := List.replicate j c ++ List.replicate (k - j) 0
theorem fillL_set (c : UInt8) (k j : Nat) (h : j < k) : (bcells (fillL c k j)).set j (.int .u8 (c.toNat : Nat)) = bcells (fillL c k (j + 1)) := by
  have e : (fillL c k j).set j c = fillL c k (j + 1) := by
    unfold fillL
    rw [List.set_append_right _ _ (by simp), List.length_replicate, Nat.sub_self, show k - j = (k - (j + 1)) + 1 from by omega, List.replicate_succ, List.set_cons_zero, List.replicate_succ', List.append_assoc]
    rfl
  rw [← e]
  simp [bcells, List.map_set]
theorem fillL_length (c : UInt8) (k j : Nat) (h : j ≤ k) : (fillL c k j).length = k := by
  unfold fillL
  simp
  omega
theorem fillL_all (c : UInt8) (k : Nat) : fillL c k k = List.replicate k c := by
  unfold fillL
  simp
theorem fillL_none (c : UInt8) (k : Nat) : bcells (fillL c k 0) = List.replicate k (.int .u8 0) := by
  unfold fillL bcells
  simp

set_option maxRecDepth 20000 in
set_option maxHeartbeats 4000000 in
theorem law3 (c : UInt8) (n lv : Nat) (w : World) (hn : n < 65536) (hlv : lv < 256) : Calls Try.prog 5 #[.int .u8 (c.toNat : Nat), .int .u16 n, .int .u8 lv] w (Yes w) := by
  obtain ⟨k, hk⟩ : ∃ k, n % 5001 = k := ⟨_, rfl⟩
  have hk1 : k ≤ 5000 := by omega
  obtain ⟨y, hy⟩ : ∃ y, c.toNat = y := ⟨_, rfl⟩
  have HY := Lib.hid hy
  rw [hy]
  have hmk : ∀ w1 : World, (Instr.makeSlice 34 (.int .i64 (k : Nat)) (.int .i64 (k : Nat))).run Try.prog w1 = .ok (.slice (some ⟨w1.heap.size, 0, none⟩) k k) (w1.alloc (.cells (Array.replicate k (.int .u8 0)) 5)) := fun w1 => by
    have := run_make_row Try.underlying34 info5 (by decide) k (by omega) w1
    simpa using this
  have ek : (n : Int) % 5001 = (k : Int) := by omega
  clear hk hy
  go_enter Try.func5, Try.ntmps5
  go_upto_region 5 with (go_at_call 6; refine (awake _).mono ?_; rintro e w1 ⟨rfl, ho⟩; have HO1 := Lib.hid ho; clear ho)
  clear hmk
  obtain ⟨B, hB⟩ : ∃ B, w1.heap.size = B := ⟨_, rfl⟩
  have i2 : Is (w1.alloc (.cells (Array.replicate k (.int .u8 0)) 5)) B 5 (bcells (fillL c k 0)) := by
    rw [fillL_none, ← hB]
    have := Is.new w1 5 (List.replicate k (Value.int .u8 0))
    simpa using this
  have o2 : Only (fun _ => False) w (w1.alloc (.cells (Array.replicate k (.int .u8 0)) 5)) := HO1.out.alloc _
  have hBw : w.heap.size ≤ B := hB ▸ HO1.out.size
  obtain ⟨w2, hw2⟩ : ∃ w2, w1.alloc (.cells (Array.replicate k (.int .u8 0)) 5) = w2 := ⟨_, rfl⟩
  rw [hw2] at i2 o2 ⊢
  have HI := Lib.hid i2
  have HO := Lib.hid o2
  rw [hB, ek]
  clear hw2 i2 o2 HO1 hB
  go_wp2_with fail
  go_loopg [9, 23] k (fun gk u9 i wx => ∃ (j : Nat), i = .int .i64 j ∧ j + gk ≤ k ∧ k ≤ j + gk ∧ Hid (Is wx B 5 (bcells (fillL c k j))) ∧ Hid (Only (fun _ => False) w wx))
  case atStart => exact ⟨0, rfl, by omega, by omega, HI, HO⟩
  case round =>
    clear HI HO
    obtain ⟨j, rfl, hg1, hg2, HI, HO⟩ := hrel
    by_cases hlt : j < k
    · have c0 := HI.out.cell j (bcells_at _ j (by rw [fillL_length c k j (by omega)]; exact hlt))
      have f0 := HI.out.frozen j
      have hlt2 : (j : Int) < (k : Int) := by omega
      go_wp2_with fail
      have HI2 : Hid (Is (wr.setCell ⟨B, j, none⟩ (.int .u8 (y : Nat))) B 5 (bcells (fillL c k (j + 1)))) := Lib.hid (by
        rw [← fillL_set c k j hlt, HY.out]
        exact HI.out.set j _)
      have HO2 : Hid (Only (fun _ => False) w (wr.setCell ⟨B, j, none⟩ (.int .u8 (y : Nat)))) := Lib.hid (HO.out.set (p := ⟨B, j, none⟩) (.inr hBw) _)
      go_roundg (gk - 1)
      case measure => omega
      case rel => exact ⟨j + 1, by go_num, by omega, by omega, HI2, HO2⟩
    · obtain rfl : j = k := by omega
      have HR : Hid (Row 5 wr (some ⟨B, 0, none⟩) j j (bcells (fillL c j j))) := Lib.hid (Row.of_is (n := j) HI.out (by rw [bcells_length, fillL_length c j j (Nat.le_refl _)]) (by unfold maxLen; omega))
      have hrow := HR.out.toText Try.underlying34 Try.underlying5 Try.underlying9
      obtain ⟨s, hs⟩ : ∃ s : ByteArray, ⟨(fillL c j j).toArray⟩ = s := ⟨_, rfl⟩
      have hsl : s.data.toList = List.replicate j c := by rw [← hs, ← fillL_all c j]
      have hsz : s.size = j := by
        have e1 : s.data.toList.length = s.size := rfl
        rw [hsl, List.length_replicate] at e1
        exact e1.symm
      rw [hs] at hrow
      obtain ⟨L, hL⟩ : ∃ L, 1 + lv % 3 = L := ⟨_, rfl⟩
      have hL1 : 1 ≤ L ∧ L ≤ 3 := by omega
      have eL : (1 : Int) + (lv : Int) % 3 = (L : Int) := by omega
      have HS := Lib.hid hs
      have HSL := Lib.hid hsl
      have HSZ := Lib.hid hsz
      clear hs hsl hL hsz
      go_upto_region 11 with (go_at_call 9; refine (tokens s L _ (by rw [HSZ.out]; omega) hL1.2).mono ?_; rintro e w3 ⟨wd, A, c', hwd, rfl, hr, ho⟩; have HT := Lib.hid hr; have HO3 := Lib.hid ho; clear hr ho)
      have hf := toksOf_facts s wd L
      have hfew := toksOf_few s c j wd L HSL.out hwd hL1.1
      rw [HSZ.out] at hf
      obtain ⟨ts, hts⟩ : ∃ ts, toksOf s wd L = ts := ⟨_, rfl⟩
      rw [hts] at hf hfew HT ⊢
      obtain ⟨m, hm⟩ : ∃ m, ts.length = m := ⟨_, rfl⟩
      rw [hm] at hf hfew HT ⊢
      have HF := Lib.hid hf.1
      have HM := Lib.hid hm
      have h2 : m ≤ j := hf.2.1
      have h4 : (m : Int) ≤ 4 + (j : Int) / 258 := by omega
      have HE : Hid (∀ w5 : World, See w5 w3.heap.size A (tks ts) → Calls Try.prog 10 #[.slice A m c', .int .i64 j] w5 fun e w' => e = .returned (.tuple #[.string s, .int .i64 0]) ∧ Only (fun _ => False) w5 w') := Lib.hid (fun w5 h5 => by
        have := rexpand_text A m c' _ ts s w5 h5 HM.out (by omega) (by rw [HSZ.out]; omega) (by rw [HSZ.out]; exact HF.out)
        rw [HSZ.out] at this
        exact this)
      have HR2 := Lib.hid (HR.out.only HO3.out fun _ _ f => f)
      have HO4 := Lib.hid (HO.out.trans HO3.out)
      clear hf hts hm hrow HR HO HO3 hfew
      go_upto_region 12 with (go_at_call 10; refine (HE.out _ HT.out.see).mono ?_; rintro e w4 ⟨rfl, ho⟩; have HO5 := Lib.hid ho; clear ho)
      have hrow := (HR2.out.only HO5.out fun _ _ f => f).toText Try.underlying34 Try.underlying5 Try.underlying9
      rw [HS.out] at hrow
      go_wp2
      go_ret
      exact ⟨rfl, HO4.out.trans HO5.out⟩
end Go.Proofs.Ytgkplmjbjbikmaa
