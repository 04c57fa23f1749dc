/- Layers 8 and 11: rows of numbers one behind the other; the lengths of kind 1. -/
import Derived.Test.YtjlkjebmilfgoaaGreatRTree
import Derived.Test.YtjlkjebmilfgoaaGreatM8
import Derived.Test.YtjlkjebmilfgoaaGreatKOT
import Derived.Laws.ResultCell
import Derived.Lib.AppendZeros
namespace Go.Proofs.YtjlkjebmilfgoaaGreat
open Go.RowKit


/-- append of so many zeros to no row (what Grow does). -/
theorem run_append_zeros (n : Nat) (ty : TypeId) (w : World) (h1 : 1 ≤ n) (h2 : n ≤ 1000) : ∃ c w', (Builtin.append_ #[44, 3] ty #[.slice none 0 0, .int .i64 n]).run Tryz.prog w = .ok (.slice (some ⟨w.heap.size, 0, none⟩) n c) w' ∧ Row 3 w' (some ⟨w.heap.size, 0, none⟩) 0 c [] ∧ n ≤ c ∧ Only (fun _ => False) w w' := by
  obtain ⟨i, hi, hz, hsz, hby⟩ := info_parts info3
  have hge := grownCap_ge w n 0 3
  have hle := grownCap_le_maxLen w n 0 3 (by unfold maxLen; omega)
  have hfit := growslice_fits (need := n) (old := 0) (bytes := i.bytes) (by omega) (by rw [hby]; omega)
  have e1 : IntKind.i64.wrap (n : Int) = (n : Int) := IntWalk.i64_in _ (by omega)
  refine ⟨grownCap w n 0 3, w.drew.alloc (.cells ((Builtin.zeroCells (Value.int .i64 0).cells n) ++ Builtin.zeroCells (Value.int .i64 0).cells (grownCap w n 0 3 - n)) 3), ?_, ?_, hge, ((Only.refl _ w).drew).alloc _⟩
  · have q1 : ¬ ((n : Int) < 0) := by omega
    have q2 : ¬ (281474976710656 < (n : Int) * (i.bytes : Nat)) := by rw [hby]; omega
    have q4 : ¬ (9223372036854775807 < (n : Int)) := by omega
    have q5 : ¬ (281474976710656 < Builtin.nextslicecap n 0 * i.bytes) := by omega
    have q6 : ¬ n = 0 := by omega
    have hk : Tryz.prog.underlying 3 = some (.int .i64) := Tryz.underlying3
    simp [Builtin.append_, run_underlying Tryz.underlying44, run_underlying hk, sizeOf, typeInfo, zeroValue, hi, hz, hsz, q1, q2, q4, q5, q6, e1, asInt, asIntOf, Question.forced, newRow, grownCap, Builtin.firstCells]
  · refine ⟨rfl, .inr ⟨w.heap.size, _, (0, 0), rfl, heap_alloc_new w.drew _, Nat.zero_le _, hle, ?_, by simp, fun i _ => by simp⟩⟩
    simp [size_zeroCells, Value.cells]
    omega
def GrowPost (w : World) (e : Ending) (w' : World) : Prop := ∃ g c, e = .returned (.slice (some ⟨g, 0, none⟩) 0 c) ∧ Made 3 w (some ⟨g, 0, none⟩) 0 c [] w'
set_option maxRecDepth 20000 in
set_option maxHeartbeats 1000000 in
theorem grow (n : Nat) (w : World) (h1 : 1 ≤ n) (h2 : n ≤ 1000) : Calls Tryz.prog 81 #[.slice none 0 0, .int .i64 n] w (GrowPost w) := by
  obtain ⟨c, w', hrun, hrow, hc, ho⟩ := run_append_zeros n 44 w h1 h2
  have HM : Hid (Made 3 w (some ⟨w.heap.size, 0, none⟩) 0 c [] w') := Lib.hid ⟨hrow, ho, by rintro j ⟨ad, e, rfl⟩; obtain rfl := Option.some.inj e; exact Nat.le_refl _⟩
  clear hrow ho
  go_enter Tryz.func81, Tryz.ntmps81
  go_upto_region 5 with fail
  go_wp2_with (at_builtin; refine Lib.wpList_append_run _ rfl (.tmp 20) (.tmp 21) 44 3 rfl _ _ (by rfl) (by rfl) _ _ hrun ?_)
  go_ret
  exact ⟨_, _, rfl, HM.out⟩

def catTo (L : List (Nat × List Nat)) (k : Nat) : List Nat := (L.take k).flatMap Prod.snd
theorem catTo_succ (L : List (Nat × List Nat)) (k g : Nat) (l : List Nat) (h : L[k]? = some (g, l)) : catTo L (k + 1) = catTo L k ++ l := by
  unfold catTo
  rw [List.take_add_one, h]
  simp
theorem catTo_mono (L : List (Nat × List Nat)) (k : Nat) : ∀ d, (catTo L k).length ≤ (catTo L (k + d)).length
  | 0 => Nat.le_refl _
  | d + 1 => by
    refine Nat.le_trans (catTo_mono L k d) ?_
    rcases h : L[k + d]? with _ | ⟨g, l⟩
    · have : L.length ≤ k + d := by simpa using h
      unfold catTo
      rw [List.take_of_length_le this, List.take_of_length_le (by omega)]
      exact Nat.le_refl _
    · rw [← Nat.add_assoc, catTo_succ L (k + d) g l h, List.length_append]
      omega

theorem Made.grow {e : TypeId} {w wx wy : World} {A A' : Option Addr} {n c n' c' : Nat} {l l' : List Value} (h : Made e w A n c l wx) (hr : Row e wy A' n' c' l') (ho : Only (Lies A) wx wy) (ha : A' = A ∨ A' = some ⟨wx.heap.size, 0, none⟩) : Made e w A' n' c' l' wy := by
  refine ⟨hr, h.2.1.andThen ho fun j hj => .inr (h.2.2 j hj), fun j hj => ?_⟩
  rcases ha with e1 | e1
  · exact h.2.2 j (e1 ▸ hj)
  · obtain ⟨ad, e2, e3⟩ := hj
    rw [e1] at e2
    obtain rfl := Option.some.inj e2
    have h1 := h.2.1.size
    have h2 : wx.heap.size = j := e3
    omega
def CatPost (w : World) (l : List Nat) (n : Nat) (e : Ending) (w' : World) : Prop := ∃ A c, e = .returned (.slice A n c) ∧ Made 3 w A n c (ints l) w'
theorem ints_append (a b : List Nat) : ints (a ++ b) = ints a ++ ints b := by simp [ints]

set_option maxRecDepth 20000 in
set_option maxHeartbeats 2000000 in
theorem concat (G m : Nat) (cp : Nat → Nat) (L : List (Nat × List Nat)) (w : World) (hm : L.length = m) (hm2 : m ≤ 1000) (hL : ∀ i g l, L[i]? = some (g, l) → w.cell? ⟨G, i, none⟩ = some (.slice (some ⟨g, 0, none⟩) l.length (cp i)) ∧ See w w.heap.size (some ⟨g, 0, none⟩) (ints l)) (N : Nat) (hN : (catTo L m).length = N) (hN1 : 1 ≤ N) (hN2 : N ≤ 1000) :
    Calls Tryz.prog 54 #[.slice (some ⟨G, 0, none⟩) m m] w (CatPost w (catTo L m) N) := by
  have HL := Lib.hid hL
  have HM := Lib.hid hm
  have HN := Lib.hid hN
  have hup : Hid (∀ k, k ≤ m → (catTo L k).length ≤ N) := Lib.hid fun k hk => by
    have := catTo_mono L k (m - k)
    rw [show k + (m - k) = m from by omega, hN] at this
    exact this
  have HG := Lib.hid (fun w2 => grow N w2 hN1 hN2)
  clear hL hm hN
  go_enter Tryz.func54, Tryz.ntmps54
  go_wp2_with fail
  go_loopg [3, 5, 11] m (fun gk v u i wx => ∃ k x : Nat, i = .int .i64 k ∧ v = .int .i64 x ∧ k + gk ≤ m ∧ m ≤ k + gk ∧ x ≤ 1000 ∧ Hid ((catTo L k).length = x) ∧ wx = w)
  case atStart => exact ⟨0, 0, rfl, rfl, by omega, by omega, by omega, Lib.hid rfl, rfl⟩
  case round =>
    obtain ⟨k, x, rfl, rfl, hk, hk2, hx, HX, hw⟩ := hrel
    have hw' := hw.symm
    subst hw'
    by_cases hlt : k < m
    · obtain ⟨⟨g, l⟩, hgl⟩ : ∃ q, L[k]? = some q := ⟨L[k]'(by rw [HM.out]; exact hlt), by simp [HM.out, hlt]⟩
      obtain ⟨c1, _⟩ := HL.out k g l hgl
      have hs := catTo_succ L k g l hgl
      have hs2 := hup.out (k + 1) (by omega)
      rw [hs, List.length_append, HX.out] at hs2
      have HS : Hid ((catTo L (k + 1)).length = x + l.length) := Lib.hid (by rw [hs, List.length_append, HX.out])
      obtain ⟨y, hy⟩ : ∃ y, l.length = y := ⟨_, rfl⟩
      obtain ⟨cz, hcz⟩ : ∃ cz, cp k = cz := ⟨_, rfl⟩
      rw [hcz] at c1
      rw [hy] at c1 HS hs2
      clear hs hgl HX hy
      go_wp2_with fail
      go_roundg (gk - 1)
      case measure => omega
      case rel => exact ⟨k + 1, x + y, by go_num, by go_num, by omega, by omega, by omega, HS, rfl⟩
    · obtain rfl : k = m := by omega
      have hx2 := HN.out
      rw [HX.out] at hx2
      subst hx2
      clear HX
      go_wp2_with fail
      refine (HG.out _).mono ?_
      rintro e w2 ⟨g0, c0, rfl, hm2⟩
      have HM2 := Lib.hid hm2
      clear hm2 HG
      go_wp2_with fail
      go_loopg [6, 8, 27] k (fun gk v u i wx => ∃ (j z : Nat) (A : Option Addr) (c : Nat), i = .int .i64 j ∧ v = .slice A z c ∧ j + gk ≤ k ∧ k ≤ j + gk ∧ z ≤ 1000 ∧ Hid ((catTo L j).length = z) ∧ Hid (Made 3 w A z c (ints (catTo L j)) wx))
      case atStart => exact ⟨0, 0, _, _, rfl, rfl, by omega, by omega, by omega, Lib.hid rfl, HM2⟩
      case round =>
        clear HM2
        obtain ⟨j, z, A, c, rfl, rfl, hj, hj2, hz, HZ, HMD⟩ := hrel
        by_cases hlt2 : j < k
        · obtain ⟨⟨g, l⟩, hgl⟩ : ∃ q, L[j]? = some q := ⟨L[j]'(by rw [HM.out]; exact hlt2), by simp [HM.out, hlt2]⟩
          obtain ⟨c1, hsee⟩ := HL.out j g l hgl
          have hs := catTo_succ L j g l hgl
          have hs2 := hup.out (j + 1) (by omega)
          rw [hs, List.length_append, HZ.out] at hs2
          have HS : Hid ((catTo L (j + 1)).length = z + l.length) := Lib.hid (by rw [hs, List.length_append, HZ.out])
          have c2 := HMD.out.2.1.cell c1 fun f => f
          have HSE := Lib.hid (See.src (c := cp j) Tryz.underlying44 (hsee.new HMD.out.2.1) (ints_length l) (ints_one l))
          obtain ⟨y, hy⟩ : ∃ y, l.length = y := ⟨_, rfl⟩
          obtain ⟨cz, hcz⟩ : ∃ cz, cp j = cz := ⟨_, rfl⟩
          rw [hcz] at c1 c2 HSE
          rw [hy] at c1 c2 HS hs2 HSE
          have HY : Hid ((ints l).length = y) := Lib.hid (by rw [ints_length, hy])
          have HCT := Lib.hid hs
          clear hs hgl HZ hy hsee
          go_upto_region 13 with fail
          go_wp2_with (at_builtin
                       refine wpList_append_row rfl (.tmp 31) (.tmp 32) 44 44 3 rfl Tryz.underlying44 info3 A z c y (ints (catTo L j)) (ints l) (.slice (some ⟨g, 0, none⟩) y cz) (by rfl) (by rfl) HMD.out.1 HY.out HSE.out (by omega) (by omega) ?_
                       intro A2 c2 w2 hrow2 honly2 hlies2
                       have hrow3 := hrow2
                       rw [← ints_append, ← HCT.out] at hrow3
                       have HM2 : Hid (Made 3 w A2 (z + y) c2 (ints (catTo L (j + 1))) w2) := Lib.hid (HMD.out.grow hrow3 honly2 hlies2)
                       clear hrow2 honly2 hlies2 hrow3)
          go_roundg (gk - 1)
          case measure => omega
          case rel => exact ⟨j + 1, z + y, A2, c2, by go_num, rfl, by omega, by omega, by omega, HS, HM2⟩
        · obtain rfl : j = k := by omega
          have hx2 := HN.out
          rw [HZ.out] at hx2
          subst hx2
          go_wp2
          go_ret
          exact ⟨A, c, rfl, HMD.out⟩
theorem kd_two (l : List Nat) : (kd l).2 = 0 ∨ (kd l).2 = 10 := by
  unfold kd
  split
  · exact .inl rfl
  · split
    · exact .inl rfl
    · split
      · exact .inl rfl
      · exact .inr rfl

def fixL (g1 g2 g3 g4 : Nat) : List (Nat × List Nat) := [(g1, List.replicate 144 8), (g2, List.replicate 112 9), (g3, List.replicate 24 7), (g4, List.replicate 8 8)]
theorem fixL_cat (g1 g2 g3 g4 : Nat) : catTo (fixL g1 g2 g3 g4) 4 = fixA := by kernel_rfl
theorem fixA_length : fixA.length = 288 := by decide +kernel

set_option maxRecDepth 20000 in
set_option maxHeartbeats 2000000 in
theorem plainSymbols (w : World) : Calls Tryz.prog 46 #[] w (CatPost w fixA 288) := by
  have HR : Hid (∀ (g v k : Nat) (w2 : World), w2.cell? ⟨g, 0, none⟩ = some (.int .i64 v) → 1 ≤ k → k ≤ 300 → Calls Tryz.prog 71 #[.slice (some ⟨g, 0, none⟩) 1 1, .int .i64 k] w2 (RepPost w2 v k)) := Lib.hid fun g v k w2 h a b => repeated g v k w2 h a b
  go_enter Tryz.func46, Tryz.ntmps46
  go_wp2_with fail
  refine (HR.out w.heap.size 8 144 _ ((Is.new w 3 [.int .i64 8]).cell 0 rfl) (by decide) (by decide)).mono ?_
  rintro e w1 ⟨g1, rfl, hm1⟩
  have H1 := Lib.hid hm1
  have HO1 : Hid (Only (fun _ => False) w w1) := Lib.hid (((Only.refl _ w).alloc _).trans hm1.2.1)
  clear hm1
  go_wp2_with fail
  refine (HR.out w1.heap.size 9 112 _ ((Is.new w1 3 [.int .i64 9]).cell 0 rfl) (by decide) (by decide)).mono ?_
  rintro e w2 ⟨g2, rfl, hm2⟩
  have H2 := Lib.hid hm2
  have HO2 : Hid (Only (fun _ => False) w1 w2) := Lib.hid (((Only.refl _ w1).alloc _).trans hm2.2.1)
  clear hm2
  go_wp2_with fail
  refine (HR.out w2.heap.size 7 24 _ ((Is.new w2 3 [.int .i64 7]).cell 0 rfl) (by decide) (by decide)).mono ?_
  rintro e w3 ⟨g3, rfl, hm3⟩
  have H3 := Lib.hid hm3
  have HO3 : Hid (Only (fun _ => False) w2 w3) := Lib.hid (((Only.refl _ w2).alloc _).trans hm3.2.1)
  clear hm3
  go_wp2_with fail
  refine (HR.out w3.heap.size 8 8 _ ((Is.new w3 3 [.int .i64 8]).cell 0 rfl) (by decide) (by decide)).mono ?_
  rintro e w4 ⟨g4, rfl, hm4⟩
  have H4 := Lib.hid hm4
  have HO4 : Hid (Only (fun _ => False) w3 w4) := Lib.hid (((Only.refl _ w3).alloc _).trans hm4.2.1)
  clear hm4 HR
  have hS : ∀ (wy : World), Only (fun _ => False) w4 wy → (See wy wy.heap.size (some ⟨g1, 0, none⟩) (ints (List.replicate 144 8)) ∧ See wy wy.heap.size (some ⟨g2, 0, none⟩) (ints (List.replicate 112 9)) ∧ See wy wy.heap.size (some ⟨g3, 0, none⟩) (ints (List.replicate 24 7)) ∧ See wy wy.heap.size (some ⟨g4, 0, none⟩) (ints (List.replicate 8 8))) := fun wy ho => by
    have o4 := HO4.out.trans ho
    have o3 := HO3.out.trans o4
    have o2 := HO2.out.trans o3
    exact ⟨(H1.out.see.new o2).more o2.size, (H2.out.see.new o3).more o3.size, (H3.out.see.new o4).more o4.size, (H4.out.see.new ho).more ho.size⟩
  have hC := concat w4.heap.size 4 (fun i => if i = 0 then 144 else if i = 1 then 112 else if i = 2 then 24 else 8) (fixL g1 g2 g3 g4) (w4.alloc (.cells [Value.slice (some ⟨g1, 0, none⟩) 144 144, .slice (some ⟨g2, 0, none⟩) 112 112, .slice (some ⟨g3, 0, none⟩) 24 24, .slice (some ⟨g4, 0, none⟩) 8 8].toArray 44)) rfl (by decide) (by
      obtain ⟨s1, s2, s3, s4⟩ := hS (w4.alloc (.cells [Value.slice (some ⟨g1, 0, none⟩) 144 144, .slice (some ⟨g2, 0, none⟩) 112 112, .slice (some ⟨g3, 0, none⟩) 24 24, .slice (some ⟨g4, 0, none⟩) 8 8].toArray 44)) ((Only.refl _ w4).alloc _)
      intro i g l h
      have hI := Is.new w4 44 [Value.slice (some ⟨g1, 0, none⟩) 144 144, .slice (some ⟨g2, 0, none⟩) 112 112, .slice (some ⟨g3, 0, none⟩) 24 24, .slice (some ⟨g4, 0, none⟩) 8 8]
      match i, h with
      | 0, h => obtain ⟨rfl, rfl⟩ : g1 = g ∧ List.replicate 144 8 = l := by simpa [fixL] using h
                exact ⟨hI.cell 0 rfl, s1⟩
      | 1, h => obtain ⟨rfl, rfl⟩ : g2 = g ∧ List.replicate 112 9 = l := by simpa [fixL] using h
                exact ⟨hI.cell 1 rfl, s2⟩
      | 2, h => obtain ⟨rfl, rfl⟩ : g3 = g ∧ List.replicate 24 7 = l := by simpa [fixL] using h
                exact ⟨hI.cell 2 rfl, s3⟩
      | 3, h => obtain ⟨rfl, rfl⟩ : g4 = g ∧ List.replicate 8 8 = l := by simpa [fixL] using h
                exact ⟨hI.cell 3 rfl, s4⟩
      | i + 4, h => simp [fixL] at h) 288 (by rw [fixL_cat]; exact fixA_length) (by decide) (by decide)
  rw [fixL_cat] at hC
  have HC := Lib.hid hC
  clear hC hS H1 H2 H3 H4
  go_wp2_with fail
  refine HC.out.mono ?_
  rintro e w5 ⟨A, c, rfl, hm5⟩
  have H5 := Lib.hid (hm5.later (((HO1.out.trans HO2.out).trans (HO3.out.trans HO4.out)).alloc _))
  clear hm5 HC
  go_wp2
  go_ret
  exact ⟨A, c, rfl, H5.out⟩

/-- A struct that lies in a block, and a slot, handed back. -/
theorem results_two {P : Program} {fn : Func} {p u : Tmp} {ty : TypeId} (h : fn.results = #[.cell p ty, .tmp u]) (tmps : Array Value) (w : World) (g : Nat) (t : TypeId) (cs : List Value) (d : TypeDesc)
    (hp : tmps.getD p undef = .pointer (some ⟨g, 0, none⟩)) (hg : Is w g t cs) (hu : P.underlying ty = some d) (hd : (match d with | .struct _ | .array _ _ => true | _ => false) = true) (hi : (P.info? ty).map (·.size) = some cs.length) :
    (results fn tmps).run P w = .ok (.tuple #[.agg cs.toArray, tmps.getD u undef]) w := by
  rw [results_cell_tmp h, hp]
  simp [asAddr, run_loadVar_row w g t ty cs.toArray (0, 0) d hg hu hd (by simpa using hi)]


set_option maxRecDepth 20000 in
theorem plainDistances (w : World) : Calls Tryz.prog 47 #[] w (CatPost w fixB 32) := by
  have HR := Lib.hid (repeated w.heap.size 5 32 (w.alloc (.cells #[.int .i64 5] 3)) ((Is.new w 3 [.int .i64 5]).cell 0 rfl) (by decide) (by decide))
  have HO : Hid (Only (fun _ => False) w (w.alloc (.cells #[.int .i64 5] 3))) := Lib.hid ((Only.refl _ w).alloc _)
  go_enter Tryz.func47, Tryz.ntmps47
  go_wp2_with fail
  refine HR.out.mono ?_
  rintro e w1 ⟨g1, rfl, hm1⟩
  have H1 := Lib.hid (hm1.later HO.out)
  clear hm1 HR
  go_wp2
  go_ret
  exact ⟨_, _, rfl, H1.out⟩

/-- The order, as an array. -/
def orderV : Value := .agg (ints order).toArray
set_option maxRecDepth 20000 in
set_option maxHeartbeats 1000000 in
theorem firstOrder (w : World) : Calls Tryz.prog 83 #[] w fun e w' => e = .returned orderV ∧ Only (fun _ => False) w w' := by
  have hI := Is.new w 98 (List.replicate 19 (.int .i64 0))
  have hO : Only (fun _ => False) w (w.alloc (.cells (List.replicate 19 (Value.int .i64 0)).toArray 98)) := (Only.refl _ w).alloc _
  have HI := Lib.hid hI
  have HO := Lib.hid hO
  clear hI hO
  go_enter Tryz.func83, Tryz.ntmps83
  go_wp2_with ((with_reducible show wpList _ _ _ (Oper.mk _ (Op.store _ _ _) _ _ _ _ :: _) _ _); refine wpList_store_row rfl 98 (.tmp 0) (.tmp 1) rfl w.heap.size (ints order).toArray (by kernel_rfl) (by kernel_rfl) 98 _ HI.out (by kernel_rfl) (by kernel_rfl) (all_oneCell_toArray (ints_one _)) ?_)
  refine bodyPost_ret (results_cell_row rfl _ _ w.heap.size 98 _ (0, 0) _ rfl (HI.out.row _) Tryz.underlying98 rfl (by kernel_rfl)) rfl ?_
  exact ⟨rfl, HO.out.row (.inr (Nat.le_refl _)) _⟩
theorem orderV_at (k : Nat) (hk : k < 19) (w : World) : (Instr.index 98 orderV (.int .i64 k)).run Tryz.prog w = .ok (.int .i64 (order.getD k 0 : Nat)) w := by
  obtain rfl | rfl | rfl | rfl | rfl | rfl | rfl | rfl | rfl | rfl | rfl | rfl | rfl | rfl | rfl | rfl | rfl | rfl | rfl : k = 0 ∨ k = 1 ∨ k = 2 ∨ k = 3 ∨ k = 4 ∨ k = 5 ∨ k = 6 ∨ k = 7 ∨ k = 8 ∨ k = 9 ∨ k = 10 ∨ k = 11 ∨ k = 12 ∨ k = 13 ∨ k = 14 ∨ k = 15 ∨ k = 16 ∨ k = 17 ∨ k = 18 := by omega
  all_goals kernel_rfl
theorem order_lt : ∀ i, order.getD i 0 < 19 := by
  intro i
  rcases Nat.lt_or_ge i 19 with h | h
  · have : ∀ j : Fin 19, order.getD j.val 0 < 19 := by decide +kernel
    exact this ⟨i, h⟩
  · rw [List.getD_eq_getElem?_getD, List.getElem?_eq_none (by simpa [order] using h)]
    decide
end Go.Proofs.YtjlkjebmilfgoaaGreat
