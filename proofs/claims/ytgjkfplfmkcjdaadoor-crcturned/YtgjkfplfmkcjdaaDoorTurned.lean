/- CrcTurned of layer 3: the walk over the law. -/
import Derived.Test.YtgjkfplfmkcjdaaDoorTurn
namespace Go.Proofs.YtgjkfplfmkcjdaaDoor.Turned
open Go.RowKit

/-- The four bytes, boxed. -/
def four (c0 c1 c2 c3 : UInt8) : List Value := bcells [c0, c1, c2, c3]
/-- Those that go over. -/
def some4 (c0 c1 c2 c3 : UInt8) (m : Nat) : List UInt8 := [c0, c1, c2, c3].take m
theorem some4_length (c0 c1 c2 c3 : UInt8) (m : Nat) : (some4 c0 c1 c2 c3 m).length = Nat.min 4 m := by
  simp [some4]
  exact Nat.min_comm m 4

/-- copy(b[p:], c[:]). -/
theorem copied (c0 c1 c2 c3 : UInt8) (B g p cap : Nat) (s : ByteArray) (w : World) (hp : p < s.size) (hI : Is w B 34 (four c0 c1 c2 c3)) (hr : Reads w g s.data.toList) (ty : TypeId) :
    (Builtin.copy_ #[35, 35] ty #[.slice (some ⟨g, p, none⟩) (s.size - p) (cap - p), .slice (some ⟨B, 0, none⟩) 4 4]).run Tryd.prog w =
      .ok (goInt (some4 c0 c1 c2 c3 (s.size - p)).length) (w.setCells g p (bcells (some4 c0 c1 c2 c3 (s.size - p)))) := by
  have hlen : (bcells (some4 c0 c1 c2 c3 (s.size - p))).length = Nat.min 4 (s.size - p) := by simp [bcells, some4_length]
  have hl2 : Nat.min 4 (s.size - p) ≤ s.size - p := Nat.min_le_right _ _
  have hin : ∀ j, j < (bcells (some4 c0 c1 c2 c3 (s.size - p))).length → w.cell? ⟨g, p + j, none⟩ = some (.int .u8 (s.data.toList[p + j]?.getD 0).toNat) ∧ w.frozen? ⟨g, p + j, none⟩ = false := by
    intro j hj
    have hb : p + j < s.data.toList.length := by simp; omega
    have h := hr (p + j) _ (List.getElem?_eq_getElem hb)
    rw [List.getElem?_eq_getElem hb]
    exact h
  have h := run_copy_cells (P := Tryd.prog) w 35 35 ty 5 g p (s.size - p) (cap - p) ⟨B, 0, none⟩ 4 4 (bcells (some4 c0 c1 c2 c3 (s.size - p))) Tryd.underlying35 (by kernel_rfl) hlen ?_
    (fun j hj => by rw [(hin j hj).1]; rfl) (fun j hj => (hin j hj).2) ?_
  · rw [h]
    simp [bcells]
  · intro j v hv
    have hadd : (⟨B, 0, none⟩ : Addr).add j = ⟨B, j, none⟩ := by
      simp [Addr.add]
      exact fun h => h.symm
    rw [hadd]
    refine hI.cell j ?_
    unfold bcells some4 at hv
    rw [List.map_take, List.getElem?_take] at hv
    split at hv
    · exact hv
    · cases hv
  · intro v hv
    unfold bcells at hv
    obtain ⟨_, _, rfl⟩ := List.mem_map.1 hv
    rfl

set_option maxHeartbeats 4000000 in
set_option maxRecDepth 100000 in
theorem walk (s : ByteArray) (p : Int) (c0 c1 c2 c3 : UInt8) (w : World) (hs : s.size ≤ maxLen) (hT : Tab w) :
    Calls Tryd.prog 5 #[.string s, .int .i64 p, .agg #[.int .u8 c0.toNat, .int .u8 c1.toNat, .int .u8 c2.toNat, .int .u8 c3.toNat]] w fun e w' => e = .returned (.bool true) ∧ Below w.heap.size w w' := by
  unfold maxLen at hs
  obtain ⟨wa, hwa⟩ : ∃ wa, w.alloc (.cells #[.int .u8 c0.toNat, .int .u8 c1.toNat, .int .u8 c2.toNat, .int .u8 c3.toNat] 34) = wa := ⟨_, rfl⟩
  have hIa : Is wa w.heap.size 34 (four c0 c1 c2 c3) := by rw [← hwa]; exact Is.new w 34 _
  have hOa : Only (fun _ => False) w wa := by rw [← hwa]; exact (Only.refl _ w).alloc _
  obtain ⟨B, hB⟩ : ∃ B, w.heap.size = B := ⟨_, rfl⟩
  have hB0 : 0 < B := by rw [← hB]; exact hT.1
  have h0 := (Since.start hT).only hT.1 hOa fun _ f => f.elim
  rw [hB] at h0 hIa ⊢
  have A : Hid (Calls Tryd.prog 6 #[] wa fun e w1 => e = .returned (.bool true) ∧ Since B w w1 ∧ Is w1 B 34 (four c0 c1 c2 c3)) :=
    (awake wa.heap.size wa wa (Nat.lt_of_lt_of_le hB0 h0.2.2) (Since.start h0.1)).mono fun _ _ ⟨he, hi⟩ =>
      ⟨he, h0.below hB0 hi.2.1 h0.2.2, (hi.2.1.block B hIa.lt).trans hIa⟩
  have HB := Lib.hid hB
  clear h0 hT hB hIa hOa
  by_cases h300 : 300 < s.size
  · have d3 : decide (300 < (s.size : Int)) = true := by simp; omega
    go_enter Tryd.func5, Tryd.ntmps5
    go_wp2_with fail
    rw [HB.out]
    refine A.out.mono ?_
    rintro e w1 ⟨rfl, hi1, hI1⟩
    have HI1 := Lib.hid hi1
    clear hi1 hI1
    go_wp2
    go_ret
    exact ⟨rfl, HI1.out.2.1⟩
  · have d3 : decide (300 < (s.size : Int)) = false := by simp; omega
    by_cases hp0 : p < 0
    · have d4 : decide (p < 0) = true := by simpa using hp0
      clear hp0
      go_enter Tryd.func5, Tryd.ntmps5
      go_wp2_with fail
      rw [HB.out]
      refine A.out.mono ?_
      rintro e w1 ⟨rfl, hi1, hI1⟩
      have HI1 := Lib.hid hi1
      clear hi1 hI1
      go_wp2
      go_ret
      exact ⟨rfl, HI1.out.2.1⟩
    · obtain ⟨q, rfl⟩ : ∃ q : Nat, p = q := ⟨p.toNat, by omega⟩
      have d4 : decide ((q : Int) < 0) = false := by simp
      clear hp0
      by_cases hq : s.size ≤ q
      · have d5 : decide ((s.size : Int) ≤ (q : Int)) = true := by simp; omega
        go_enter Tryd.func5, Tryd.ntmps5
        go_wp2_with fail
        rw [HB.out]
        refine A.out.mono ?_
        rintro e w1 ⟨rfl, hi1, hI1⟩
        have HI1 := Lib.hid hi1
        clear hi1 hI1
        go_wp2
        go_ret
        exact ⟨rfl, HI1.out.2.1⟩
      · have d5 : decide ((s.size : Int) ≤ (q : Int)) = false := by simp; omega
        have d6 : decide (s.size ≤ q) = false := by simp; omega
        have hq2 : q < s.size := by omega
        have hq3 : q ≤ s.size := by omega
        clear hq
        go_enter Tryd.func5, Tryd.ntmps5
        go_wp2_with fail
        rw [HB.out]
        refine A.out.mono ?_
        rintro e w1 ⟨rfl, hi1, hI1⟩
        obtain ⟨cap, w2, hcv, hcap, hr2, ho2, hlt2⟩ := run_bytes (P := Tryd.prog) Tryd.underlying9 Tryd.underlying35 Tryd.underlying5 s w1
        have hI2 : Is w2 B 34 (four c0 c1 c2 c3) := hI1.only ho2 id
        have hi2 : Since B w w2 := hi1.only hB0 ho2 fun _ f => f.elim
        have hBg : B < w1.heap.size := hI1.lt
        obtain ⟨g, hg⟩ : ∃ g, w1.heap.size = g := ⟨_, rfl⟩
        rw [hg] at hcv hr2 hlt2 hBg
        have hne : (cap = q) = False := by simp; omega
        have HC := Lib.hid (copied c0 c1 c2 c3 B g q cap s w2.drew hq2 hI2.drew hr2)
        have HI2 := Lib.hid hi2
        have HR2 := Lib.hid hr2
        clear hi1 hI1 hr2 ho2 hI2 hi2 hg
        go_upto_region 6 with fail
        go_region_law
          (first
            | (rw [if_pos (by rfl)]
               refine Lib.wp_copy_run w2.drew (.tmp 27) (.tmp 28) 35 35 (by rfl) (.slice (some ⟨g, q, none⟩) (s.size - q) (cap - q)) (.slice (some ⟨B, 0, none⟩) 4 4) (by rfl) (by rfl) (HC.out _) ?_))
        all_goals
          obtain ⟨w3, hw3⟩ : ∃ w3, w2.drew.setCells g q (bcells (some4 c0 c1 c2 c3 (s.size - q))) = w3 := ⟨_, rfl⟩
          have hle : q + (some4 c0 c1 c2 c3 (s.size - q)).length ≤ s.data.toList.length := by
            have hmin : Nat.min 4 (s.size - q) ≤ s.size - q := Nat.min_le_right _ _
            rw [some4_length, show s.data.toList.length = s.size from by simp]
            omega
          have hR3 : Reads w3 g (over s.data.toList q (some4 c0 c1 c2 c3 (s.size - q))) := by
            rw [← hw3]
            exact Reads.over (w := w2.drew) HR2.out q _ hle
          have hi3 : Since B w w3 := by
            rw [← hw3]
            exact (HI2.out.drew hB0).only hB0 (setCells_only g _ q _) fun j e => by omega
          have hll : (over s.data.toList q (some4 c0 c1 c2 c3 (s.size - q))).length = s.size := by
            rw [over_length _ _ _ hle]
            simp
          have htold := over_told s.data.toList q (some4 c0 c1 c2 c3 (s.size - q)) hle (by rw [some4_length]; exact Nat.min_le_left _ _)
          obtain ⟨l, hl⟩ : ∃ l, over s.data.toList q (some4 c0 c1 c2 c3 (s.size - q)) = l := ⟨_, rfl⟩
          rw [hl] at hR3 hll htold
          rw [hw3]
          have hcv3 : ∀ n, (convert 35 9 (.slice (some ⟨g, 0, none⟩) s.size cap)).run Tryd.prog (w3.drewN n) = .ok (.string ⟨l.toArray⟩) (w3.drewN n) :=
            fun n => run_text Tryd.underlying35 Tryd.underlying5 Tryd.underlying9 (show Reads (w3.drewN n) g l from hR3) s.size cap hll
          have hC1 : ∀ n, Calls Tryd.prog 10 #[.string ⟨l.toArray⟩] (w3.drewN n) fun e w' => e = .returned (.int .u32 (crc l : Nat)) ∧ ∃ m, w' = w3.drewN m :=
            fun n => (of ⟨l.toArray⟩ (w3.drewN n) (hi3.drewN hB0 n).1 (by show l.length ≤ _; omega)).mono fun _ _ ⟨he, hw⟩ => ⟨he, n, hw.symm⟩
          have hC2 : ∀ n, Calls Tryd.prog 10 #[.string s] (w3.drewN n) fun e w' => e = .returned (.int .u32 (crc s.data.toList : Nat)) ∧ ∃ m, w' = w3.drewN m :=
            fun n => (of s (w3.drewN n) (hi3.drewN hB0 n).1 (by omega)).mono fun _ _ ⟨he, hw⟩ => ⟨he, n, hw.symm⟩
          have HC1 := Lib.hid hC1
          have HC2 := Lib.hid hC2
          have HI3 := Lib.hid hi3
          clear hw3 hle hR3 hi3 hll hl HC HI2 HR2 hcv hC1 hC2
          by_cases heq : l = s.data.toList
          · subst heq
            have hse : (⟨s.data.toList.toArray⟩ : ByteArray) = s := by simp
            rw [hse] at hcv3
            clear htold HC1 hse
            go_wp2_with fail
            go_quiet (first | (go_at_call 10; exact HC2.out _))
            go_wp2
            go_ret
            exact ⟨rfl, (HI3.out.drewN hB0 _).2.1⟩
          · have hne1 : ¬ crc l = crc s.data.toList := fun h => heq (htold.1 h)
            have hse : (⟨l.toArray⟩ : ByteArray).data.toList = l := rfl
            obtain ⟨t, ht⟩ : ∃ t : ByteArray, ⟨l.toArray⟩ = t := ⟨_, rfl⟩
            rw [ht] at hcv3 hse
            rw [ht] at HC1
            clear ht
            have hb2 : (t.toList == s.toList) = false := by
              rw [beq_eq_false_iff_ne, ByteArray.toList_eq, ByteArray.toList_eq, hse]
              exact heq
            obtain ⟨x, hx⟩ : ∃ x, crc l = x := ⟨_, rfl⟩
            obtain ⟨y, hy⟩ : ∃ y, crc s.data.toList = y := ⟨_, rfl⟩
            rw [hx] at hne1 HC1
            rw [hy] at hne1 HC2
            have hb1 : ((x : Int) == (y : Int)) = false := by rw [beq_eq_false_iff_ne]; omega
            clear htold hse hx hy heq
            go_wp2_with fail
            go_quiet (first | (go_at_call 10; exact HC2.out _) | (go_at_call 10; exact HC1.out _))
            go_wp2
            go_ret
            exact ⟨rfl, (HI3.out.drewN hB0 _).2.1⟩
end Go.Proofs.YtgjkfplfmkcjdaaDoor.Turned
