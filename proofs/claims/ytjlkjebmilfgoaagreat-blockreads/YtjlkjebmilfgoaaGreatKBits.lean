/- Layer 11: blocks are the document's bits: the law. -/
import Derived.Test.YtjlkjebmilfgoaaGreatKAwake
import Derived.Test.YtjlkjebmilfgoaaGreatKOw
import Derived.Test.YtjlkjebmilfgoaaGreatKD
namespace Go.Proofs.YtjlkjebmilfgoaaGreat
open Go.RowKit

theorem one_text (bl : List UInt8) : ∃ T, ∀ t, TextIs bl t → t = T := by
  by_cases h : ∃ t, TextIs bl t
  · obtain ⟨T, hT⟩ := h
    refine ⟨T, fun t ht => ?_⟩
    have h1 := text_is T.data.toList ht (by rw [← hT.1]; rfl) hT.2
    rw [h1]
  · exact ⟨default, fun t ht => absurd ⟨t, ht⟩ h⟩
theorem nb_zeros (n : Nat) : nb 0 n = List.replicate n 0 := by
  unfold nb
  apply List.ext_getElem
  · simp
  · intro i h1 h2
    simp
theorem stored_bits (N : Nat) (S : ByteArray) (last : Bool) : Bits (storedB (List.replicate N 0) S last) := by
  unfold storedB alignB
  exact bits_append (bits_append (bits_append (zeros_bits N) (headB_bits _ _)) (zeros_bits _)) (bits_append (bitsOf_bits _) (bitsOf_bits _))
set_option maxRecDepth 100000 in
set_option maxHeartbeats 8000000 in
theorem bits11 (κ : Int) (S : ByteArray) (A : Option Addr) (n c : Nat) (ts : List Tk) (last : Bool) (at_ : Nat) (w : World) (hs : See w w.heap.size A (tks ts)) (hn : ts.length = n) :
    Calls Tryz.prog 3 #[.agg #[.int .u8 κ, .string S, .slice A n c], .bool last, .int .u8 at_] w (YesK w) := by
  obtain ⟨wa, hwa⟩ : ∃ wa, w.alloc (.cells #[.int .u8 κ, .string S, .slice A n c] 24) = wa := ⟨_, rfl⟩
  obtain ⟨K, hK⟩ : ∃ K, w.heap.size = K := ⟨_, rfl⟩
  have hoa : Only (fun _ => False) w wa := by rw [← hwa]; exact (Only.refl _ w).alloc _
  have hIa : Is wa K 24 [.int .u8 κ, .string S, .slice A n c] := by rw [← hwa, ← hK]; exact Is.new w _ _
  have HI : Hid (∀ wx, Only (fun _ => False) wa wx → Is wx K 24 [.int .u8 κ, .string S, .slice A n c]) := Lib.hid fun wx ho => hIa.only ho fun f => f
  have HA := Lib.hid (awake11 wa)
  have HOa := Lib.hid hoa
  clear hIa hoa
  go_enter Tryz.func3, Tryz.ntmps3
  go_wp2_with fail
  refine HA.out.mono ?_
  rintro e w1 ⟨rfl, o1⟩
  have i1 := HI.out w1 o1
  have c1 := i1.cell 1 rfl
  have c2 := i1.cell 2 rfl
  have HO1 := Lib.hid o1
  clear o1 HA i1
  by_cases hn60 : 60 < n
  · have d0 : (60 : Int) < (n : Int) := by omega
    go_wp2
    go_ret
    exact ⟨rfl, HOa.out.trans HO1.out⟩
  obtain ⟨k, hk⟩ : ∃ k, S.size = k := ⟨_, rfl⟩
  have d0 : ¬ (60 : Int) < (n : Int) := by omega
  by_cases hk100 : 100 < k
  · have d1 : (100 : Int) < (k : Int) := by omega
    go_wp2
    go_ret
    exact ⟨rfl, HOa.out.trans HO1.out⟩
  have d1 : ¬ (100 : Int) < (k : Int) := by omega
  obtain ⟨N, hN⟩ : ∃ N, at_ % 8 = N := ⟨_, rfl⟩
  have hN7 : N ≤ 7 := by omega
  have eN : (at_ : Int) % 8 = (N : Int) := by omega
  have HNW := Lib.hid (newWf w1)
  clear hN
  go_wp2_with fail
  refine HNW.out.mono ?_
  rintro e w2 ⟨rfl, f2, o2⟩
  obtain ⟨b, hb⟩ : ∃ b, w1.heap.size = b := ⟨_, rfl⟩
  rw [hb] at f2 ⊢
  have hbw : wa.heap.size ≤ b := by rw [← hb]; exact HO1.out.size
  have HP := Lib.hid (wput b 0 N _ [] w2 f2 (by decide) (by decide) (by omega))
  have HO2 := Lib.hid (HO1.out.trans o2)
  have HBW := Lib.hid hbw
  clear f2 o2 HNW hb hbw c1 c2 HO1
  go_wp2_with fail
  refine HP.out.mono ?_
  rintro e w3 ⟨rfl, q3⟩
  rw [List.nil_append, nb_zeros] at q3
  have HO3 : Hid (Only (fun _ => False) wa w3) := Lib.hid (HO2.out.andThen q3.only fun j e => .inr (by rw [e]; exact HBW.out))
  have HSt := Lib.hid (stored b S last _ _ w3 q3.wf (by rw [List.length_replicate]; omega) (by omega))
  have HF3 : Hid (∀ j, (j = b ∨ w2.heap.size ≤ j) → wa.heap.size ≤ j) := Lib.hid fun j e => by
    have h1 := HBW.out
    have h2 := HO2.out.size
    omega
  have c1 := (HI.out w3 HO3.out).cell 1 rfl
  clear q3 HP
  go_wp2_with fail
  refine HSt.out.mono ?_
  rintro e w4 ⟨rfl, q4⟩
  have HO4 : Hid (Only (fun _ => False) wa w4) := Lib.hid (HO3.out.andThen q4.only fun j e => .inr (HF3.out j e))
  obtain ⟨X, hX⟩ : ∃ X, storedB (List.replicate N 0) S last = X := ⟨_, rfl⟩
  rw [hX] at q4
  obtain ⟨T, hT⟩ := one_text X
  have HTx : Hid (∀ wx, Only (fun _ => False) w4 wx → Calls Tryz.prog 9 #[.pointer (some ⟨b, 0, none⟩)] wx fun e w' => e = .returned (.string T) ∧ wx = w') := Lib.hid fun wx ho => by
    refine (wtext b _ X wx (q4.wf.new ho)).mono ?_
    rintro e w' ⟨⟨t, rfl, ht⟩, rfl⟩
    rw [hT t ht]
    exact ⟨rfl, rfl⟩
  obtain ⟨m, hm⟩ : ∃ m, (X.drop N).length = m := ⟨_, rfl⟩
  have hXl : N + 8 ≤ X.length ∧ X.length ≤ 2000 := by
    rw [← hX]
    unfold storedB
    rw [List.length_append, alignB_length, List.length_append, List.length_append, bitsOf_length, bitsOf_length, List.length_append, bytesOf_length, bytesOf_length, List.length_replicate, headB_length]
    rw [show S.data.toList.length = k by rw [← hk]; rfl]
    omega
  have hXe : List.replicate N 0 ++ X.drop N = X := by
    rw [← hX]
    unfold storedB alignB
    rw [List.append_assoc, List.append_assoc, List.drop_left' (by rw [List.length_replicate])]
  have hXb : Bits X := by
    rw [← hX]
    exact stored_bits N S last
  have HRS : Hid (∀ wx, Calls Tryz.prog 11 #[.int .i64 N, .string S, .bool last] wx (TokPost wx (X.drop N))) := Lib.hid fun wx => by
    rw [← hX]
    exact rstored N S last wx hN7 (by omega)
  obtain ⟨M, hM⟩ : ∃ M, M = (bcells (List.replicate N 0)).toArray := ⟨_, rfl⟩
  have HMk : Hid (∀ W : World, (Instr.makeSlice 34 (.int .i64 N) (.int .i64 N)).run Tryz.prog W = .ok (.slice (some ⟨W.heap.size, 0, none⟩) N N) (W.alloc (.cells M 5)) ∧ Row 5 (W.alloc (.cells M 5)) (some ⟨W.heap.size, 0, none⟩) N N (bcells (List.replicate N 0))) := Lib.hid fun W => by
    rw [hM]
    exact ⟨bmake_row Tryz.underlying34 info5 N (by omega) W, (BRow.made 5 W N (by omega)).row⟩
  have HAP : Hid (∀ wy G A2 c2, Row 5 wy (some ⟨G, 0, none⟩) N N (bcells (List.replicate N 0)) → See wy wy.heap.size A2 (bcells (X.drop N)) → Only (fun _ => False) w4 wy → w4.heap.size ≤ G →
      ∃ A9 c9 wz, (Builtin.append_ #[34, 34] 34 #[.slice (some ⟨G, 0, none⟩) N N, .slice A2 m c2]).run Tryz.prog wy = .ok (.slice A9 (N + m) c9) wz ∧ Only (fun _ => False) w4 wz ∧ Calls Tryz.prog 10 #[.slice A9 (N + m) c9] wz fun e w' => e = .returned (.string T) ∧ Only (fun _ => False) w4 w') := Lib.hid fun wy G A2 c2 hr hs2 ho hG => by
    obtain ⟨ad, rfl⟩ : ∃ ad, A2 = some ad := by
      obtain ⟨b0, off, e1, _⟩ := hs2 0 _ (bcells_at (X.drop N) 0 (by rw [List.length_drop]; omega))
      exact ⟨_, e1⟩
    have hsrc : Src Tryz.prog 1 34 (.slice (some ad) m c2) m (bcells (X.drop N)) wy := See.src (c := c2) Tryz.underlying34 hs2 (by rw [bcells_length, hm]) (bcells_one _)
    have hml : m ≤ 2000 := by rw [← hm, List.length_drop]; omega
    obtain ⟨A9, c9, wz, hrun, r1, r2, r3⟩ := run_append_row (P := Tryz.prog) (ty := 34) Tryz.underlying34 info5 hr (r := bcells (X.drop N)) (m := m) (by rw [bcells_length, hm]) hsrc (by decide) (by omega)
    have hap : bcells (List.replicate N 0) ++ bcells (X.drop N) = bcells X := by rw [bcells, bcells, ← List.map_append, hXe, bcells]
    rw [hap] at r1
    have oz : Only (fun _ => False) w4 wz := ho.andThen r2 fun j ⟨ad2, e1, e2⟩ => .inr (by obtain rfl := Option.some.inj e1; exact e2 ▸ hG)
    have hlen : X.length = N + m := by rw [← hm, List.length_drop]; omega
    refine ⟨A9, c9, wz, hrun, oz, ?_⟩
    refine (rtext A9 (N + m) c9 X wz (r1.see.sees hlen) hXb (by omega)).mono ?_
    rintro e w' ⟨t, rfl, t1, t2, t3⟩
    rw [hT ⟨t.toArray⟩ ⟨by show t.toArray.size = _; rw [hlen, List.size_toArray, t1], by show le t = _; exact t2⟩]
    exact ⟨rfl, oz.trans t3⟩
  have HK : Hid (∀ W, Only (fun _ => False) w4 W → W.cell? ⟨K, 1, none⟩ = some (.string S) ∧ W.cell? ⟨K, 2, none⟩ = some (.slice A n c)) := Lib.hid fun W ho => ⟨(HI.out W (HO4.out.trans ho)).cell 1 rfl, (HI.out W (HO4.out.trans ho)).cell 2 rfl⟩
  have hm0 : 0 < m := by rw [← hm, List.length_drop]; omega
  have HM := Lib.hid hm
  clear q4 hT hM HSt hXl hXe hXb hX hm c1 HF3 HO3 HO2
  go_wp2_with fail
  go_cut [57] (fun x wx => x = .bool false ∧ Hid (Only (fun _ => False) w4 wx))
  case first =>
    refine Walk.region (fun W => Only (fun _ => False) w4 W) (.t 0 (.t 1 (.t 2 (.t 3 (.t 5 (.t 7 (.t 8 (.t 9 (.t 10 (.two 4 6 (.two 6 11 (.f 11 (.f 12 (.f 13 (.t 14 (.t 15 .nil))))) (.f 6 (.f 12 (.f 13 (.t 14 (.t 15 .nil)))))) (.f 4 (.f 11 (.f 12 (.f 13 (.t 14 (.t 15 .nil)))))))))))))))) (by kernel_rfl) (by kernel_rfl) (by kernel_rfl) (fun _ _ d _ _ h => by cases d <;> exact h) ?_
    have o0 : Only (fun _ => False) w4 w4.drew := (Only.refl _ w4).drew
    refine Walk.take (.int .i64 0) rfl o0 (fun W hW => by kernel_rfl) ?_
    simp only [Act.put, List.setIfInBounds_toArray, List.set_cons_succ, List.set_cons_zero]
    refine Walk.take (.bool false) rfl o0 (fun W hW => by go_simp) ?_
    simp only [Act.put, List.setIfInBounds_toArray, List.set_cons_succ, List.set_cons_zero]
    refine Walk.take (.bool false) rfl o0 (fun W hW => by kernel_rfl) ?_
    simp only [Act.put, List.setIfInBounds_toArray, List.set_cons_succ, List.set_cons_zero]
    refine Walk.takeG (.pointer (some ⟨b, 0, none⟩)) rfl (by rfl) o0 (fun W hW => by kernel_rfl) ?_
    simp only [Act.put, List.setIfInBounds_toArray, List.set_cons_succ, List.set_cons_zero]
    refine Walk.takeG (.int .i64 N) rfl (by rfl) o0 (fun W hW => by kernel_rfl) ?_
    simp only [Act.put, List.setIfInBounds_toArray, List.set_cons_succ, List.set_cons_zero]
    refine Walk.takeG (.int .i64 N) rfl (by rfl) o0 (fun W hW => by kernel_rfl) ?_
    simp only [Act.put, List.setIfInBounds_toArray, List.set_cons_succ, List.set_cons_zero]
    refine Walk.takeG (.pointer (some ⟨K, 1, none⟩)) rfl (by rfl) o0 (fun W hW => by go_simp) ?_
    simp only [Act.put, List.setIfInBounds_toArray, List.set_cons_succ, List.set_cons_zero]
    refine Walk.takeG (.string S) rfl (by rfl) o0 (fun W hW => by have c1 := (HK.out W hW).1; go_simp) ?_
    simp only [Act.put, List.setIfInBounds_toArray, List.set_cons_succ, List.set_cons_zero]
    refine Walk.takeG (.bool last) rfl (by rfl) o0 (fun W hW => by kernel_rfl) ?_
    simp only [Act.put, List.setIfInBounds_toArray, List.set_cons_succ, List.set_cons_zero]
    constructor
    · refine op_callG 9 #[.pointer (some ⟨b, 0, none⟩)] rfl (by rfl) (by kernel_rfl) ((HTx.out w4.drew o0).mono ?_)
      rintro e _ ⟨rfl, rfl⟩
      refine ⟨_, rfl, o0, ?_⟩
      simp only [Act.put, List.setIfInBounds_toArray, List.set_cons_succ, List.set_cons_zero]
      constructor
      · obtain ⟨hmk, hrow⟩ := HMk.out w4.drew
        obtain ⟨G, hG⟩ : ∃ G, w4.drew.heap.size = G := ⟨_, rfl⟩
        have hG4 : w4.heap.size ≤ G := by rw [← hG]; exact o0.size
        rw [hG] at hmk hrow
        obtain ⟨wm, hwm⟩ : ∃ wx, w4.drew.alloc (.cells M 5) = wx := ⟨_, rfl⟩
        have owm : Only (fun _ => False) w4 wm := by rw [← hwm]; exact o0.alloc _
        rw [hwm] at hmk hrow
        refine op_valueG (w' := wm) (.slice (some ⟨G, 0, none⟩) N N) rfl (by rfl) (by go_simp) ⟨owm, ?_⟩
        simp only [Act.put, List.setIfInBounds_toArray, List.set_cons_succ, List.set_cons_zero]
        refine op_callG 11 #[.int .i64 N, .string S, .bool last] rfl (by rfl) (by kernel_rfl) ((HRS.out wm).mono ?_)
        rintro e ws ⟨A2, c2, m2, rfl, hm2, hs2, ho2⟩
        obtain rfl : m = m2 := by rw [← hm2]; exact HM.out.symm
        have ows := owm.trans ho2
        refine ⟨_, rfl, ows, ?_⟩
        simp only [Act.put, List.setIfInBounds_toArray, List.set_cons_succ, List.set_cons_zero]
        obtain ⟨A9, c9, wz, hrun, oz, hcall⟩ := HAP.out ws G A2 c2 (hrow.only ho2 fun _ _ f => f) hs2 ows hG4
        refine op_valueG (w' := wz) (.slice A9 (N + m) c9) rfl (by rfl) (exec_append (.tmp 48) (.tmp 53) rfl rfl rfl hrun) ⟨oz, ?_⟩
        simp only [Act.put, List.setIfInBounds_toArray, List.set_cons_succ, List.set_cons_zero]
        refine op_callG 10 #[.slice A9 (N + m) c9] rfl (by rfl) (by kernel_rfl) ((hcall).mono ?_)
        rintro e wq ⟨rfl, oq⟩
        refine ⟨_, rfl, oq, ?_⟩
        simp only [Act.put, List.setIfInBounds_toArray, List.set_cons_succ, List.set_cons_zero]
        refine Walk.takeG (.bool false) rfl (by rfl) oq (fun W hW => by go_simp) ?_
        simp only [Act.put, List.setIfInBounds_toArray, List.set_cons_succ, List.set_cons_zero]
        refine Walk.take (.bool false) rfl oq (fun W hW => by go_simp) ?_
        simp only [Act.put, List.setIfInBounds_toArray, List.set_cons_succ, List.set_cons_zero]
        show wpList _ _ _ _ _ _
        have HOq := Lib.hid oq
        clear hrun oz hcall oq hs2 hrow hmk
        go_wp2_with fail
        go_meet
        exact ⟨rfl, HOq⟩
      · refine op_callG 11 #[.int .i64 N, .string S, .bool last] rfl (by rfl) (by kernel_rfl) ((HRS.out w4.drew).mono ?_)
        rintro e ws ⟨A2, c2, m2, rfl, hm2, hs2, ho2⟩
        obtain rfl : m = m2 := by rw [← hm2]; exact HM.out.symm
        have ows := o0.trans ho2
        refine ⟨_, rfl, ows, ?_⟩
        simp only [Act.put, List.setIfInBounds_toArray, List.set_cons_succ, List.set_cons_zero]
        obtain ⟨hmk, hrow⟩ := HMk.out ws
        obtain ⟨G, hG⟩ : ∃ G, ws.heap.size = G := ⟨_, rfl⟩
        have hG4 : w4.heap.size ≤ G := by rw [← hG]; exact ows.size
        rw [hG] at hmk hrow
        obtain ⟨wm, hwm⟩ : ∃ wx, ws.alloc (.cells M 5) = wx := ⟨_, rfl⟩
        have owm : Only (fun _ => False) w4 wm := by rw [← hwm]; exact ows.alloc _
        rw [hwm] at hmk hrow
        refine op_valueG (w' := wm) (.slice (some ⟨G, 0, none⟩) N N) rfl (by rfl) (by go_simp) ⟨owm, ?_⟩
        simp only [Act.put, List.setIfInBounds_toArray, List.set_cons_succ, List.set_cons_zero]
        obtain ⟨A9, c9, wz, hrun, oz, hcall⟩ := HAP.out wm G A2 c2 hrow ((hs2.new (by rw [← hwm]; exact (Only.refl _ ws).alloc _)).more (by rw [← hwm]; simp)) owm hG4
        refine op_valueG (w' := wz) (.slice A9 (N + m) c9) rfl (by rfl) (exec_append (.tmp 48) (.tmp 53) rfl rfl rfl hrun) ⟨oz, ?_⟩
        simp only [Act.put, List.setIfInBounds_toArray, List.set_cons_succ, List.set_cons_zero]
        refine op_callG 10 #[.slice A9 (N + m) c9] rfl (by rfl) (by kernel_rfl) ((hcall).mono ?_)
        rintro e wq ⟨rfl, oq⟩
        refine ⟨_, rfl, oq, ?_⟩
        simp only [Act.put, List.setIfInBounds_toArray, List.set_cons_succ, List.set_cons_zero]
        refine Walk.takeG (.bool false) rfl (by rfl) oq (fun W hW => by go_simp) ?_
        simp only [Act.put, List.setIfInBounds_toArray, List.set_cons_succ, List.set_cons_zero]
        refine Walk.take (.bool false) rfl oq (fun W hW => by go_simp) ?_
        simp only [Act.put, List.setIfInBounds_toArray, List.set_cons_succ, List.set_cons_zero]
        show wpList _ _ _ _ _ _
        have HOq := Lib.hid oq
        clear hrun oz hcall oq hs2 hrow hmk
        go_wp2_with fail
        go_meet
        exact ⟨rfl, HOq⟩
    · obtain ⟨hmk, hrow⟩ := HMk.out w4.drew
      obtain ⟨G, hG⟩ : ∃ G, w4.drew.heap.size = G := ⟨_, rfl⟩
      have hG4 : w4.heap.size ≤ G := by rw [← hG]; exact o0.size
      rw [hG] at hmk hrow
      obtain ⟨wm, hwm⟩ : ∃ wx, w4.drew.alloc (.cells M 5) = wx := ⟨_, rfl⟩
      have owm : Only (fun _ => False) w4 wm := by rw [← hwm]; exact o0.alloc _
      rw [hwm] at hmk hrow
      refine op_valueG (w' := wm) (.slice (some ⟨G, 0, none⟩) N N) rfl (by rfl) (by go_simp) ⟨owm, ?_⟩
      simp only [Act.put, List.setIfInBounds_toArray, List.set_cons_succ, List.set_cons_zero]
      refine op_callG 9 #[.pointer (some ⟨b, 0, none⟩)] rfl (by rfl) (by kernel_rfl) ((HTx.out wm owm).mono ?_)
      rintro e _ ⟨rfl, rfl⟩
      refine ⟨_, rfl, owm, ?_⟩
      simp only [Act.put, List.setIfInBounds_toArray, List.set_cons_succ, List.set_cons_zero]
      refine op_callG 11 #[.int .i64 N, .string S, .bool last] rfl (by rfl) (by kernel_rfl) ((HRS.out wm).mono ?_)
      rintro e ws ⟨A2, c2, m2, rfl, hm2, hs2, ho2⟩
      obtain rfl : m = m2 := by rw [← hm2]; exact HM.out.symm
      have ows := owm.trans ho2
      refine ⟨_, rfl, ows, ?_⟩
      simp only [Act.put, List.setIfInBounds_toArray, List.set_cons_succ, List.set_cons_zero]
      obtain ⟨A9, c9, wz, hrun, oz, hcall⟩ := HAP.out ws G A2 c2 (hrow.only ho2 fun _ _ f => f) hs2 ows hG4
      refine op_valueG (w' := wz) (.slice A9 (N + m) c9) rfl (by rfl) (exec_append (.tmp 48) (.tmp 53) rfl rfl rfl hrun) ⟨oz, ?_⟩
      simp only [Act.put, List.setIfInBounds_toArray, List.set_cons_succ, List.set_cons_zero]
      refine op_callG 10 #[.slice A9 (N + m) c9] rfl (by rfl) (by kernel_rfl) ((hcall).mono ?_)
      rintro e wq ⟨rfl, oq⟩
      refine ⟨_, rfl, oq, ?_⟩
      simp only [Act.put, List.setIfInBounds_toArray, List.set_cons_succ, List.set_cons_zero]
      refine Walk.takeG (.bool false) rfl (by rfl) oq (fun W hW => by go_simp) ?_
      simp only [Act.put, List.setIfInBounds_toArray, List.set_cons_succ, List.set_cons_zero]
      refine Walk.take (.bool false) rfl oq (fun W hW => by go_simp) ?_
      simp only [Act.put, List.setIfInBounds_toArray, List.set_cons_succ, List.set_cons_zero]
      show wpList _ _ _ _ _ _
      have HOq := Lib.hid oq
      clear hrun oz hcall oq hs2 hrow hmk
      go_wp2_with fail
      go_meet
      exact ⟨rfl, HOq⟩
  case rest =>
    obtain ⟨rfl, HO5⟩ := hcut
    have HO6 := Lib.hid (HO4.out.trans HO5.out)
    have HSee : Hid (∀ wx, Only (fun _ => False) wa wx → See wx w.heap.size A (tks ts)) := Lib.hid fun wx ho => hs.new (HOa.out.trans ho)
    have HLt : Hid (ts ≠ [] → ∀ j, Lies A j → j < w.heap.size) := Lib.hid fun h0 j hj => by
      obtain ⟨t, r, rfl⟩ := List.exists_cons_of_ne_nil h0
      obtain ⟨bb, off, e1, h2, _⟩ := hs.token 0 t rfl
      obtain ⟨ad, e2, e3⟩ := hj
      rw [e1] at e2
      obtain rfl := Option.some.inj e2
      exact e3 ▸ h2
    have HWa : Hid (w.heap.size < wa.heap.size) := Lib.hid (by rw [← hwa]; simp)
    have HNW := Lib.hid (newWf wc)
    clear HO5 HK HAP HMk HRS HTx HM HO4 HBW hs
    go_wp2_with fail
    refine HNW.out.mono ?_
    rintro e w5 ⟨rfl, f5, o5⟩
    obtain ⟨v, hv⟩ : ∃ v, wc.heap.size = v := ⟨_, rfl⟩
    rw [hv] at f5 ⊢
    have F5 := Lib.hid f5
    have HV : Hid (wa.heap.size ≤ v ∧ v < w5.heap.size) := Lib.hid ⟨by rw [← hv]; exact HO6.out.size, by
      obtain ⟨_, _, _, _, hw, _⟩ := f5
      exact hw.wr.1.lt⟩
    have HO7 := Lib.hid (HO6.out.trans o5)
    have c2 := (HI.out w5 HO7.out).cell 2 rfl
    clear f5 o5 HNW hv HO6
    cases hmm : allB ts with
    | false =>
      have HPB : Hid (∀ wx, Only (fun _ => False) wa wx → Calls Tryz.prog 12 #[.pointer (some ⟨v, 0, none⟩), .slice A n c, .bool last] wx fun e w' => e = .returned (.int .i64 1) ∧ Only (fun _ => False) wx w') := Lib.hid fun wx ho => plain_bad _ A n c _ ts last wx (HSee.out wx ho) hn (by omega) hmm
      have HZB : Hid (∀ wx, Only (fun _ => False) wa wx → Calls Tryz.prog 13 #[.slice A n c] wx fun e w' => e = .returned (.tuple #[.int .i64 0, .int .i64 0, .int .i64 1]) ∧ Only (fun _ => False) wx w') := Lib.hid fun wx ho => sizes_bad A n c _ ts wx (HSee.out wx ho) hn (by omega) hmm
      have HOB : Hid (∀ u wx, Only (fun _ => False) wa wx → Calls Tryz.prog 14 #[.pointer (some ⟨u, 0, none⟩), .slice A n c, .bool last] wx fun e w' => e = .returned (.int .i64 1) ∧ Only (fun _ => False) wx w') := Lib.hid fun u wx ho => own_bad _ A n c _ ts last wx (HSee.out wx ho) hn (by omega) hmm
      have HM11 : Hid (∀ wx, Only (fun _ => False) wa wx → Calls Tryz.prog 15 #[.slice A n c] wx fun e w' => e = .returned (.bool false) ∧ Only (fun _ => False) wx w') := Lib.hid fun wx ho => by
        have := rmay11 A n c _ ts wx (HSee.out wx ho) hn (by omega)
        rw [hmm] at this
        exact this
      go_wp2_with fail
      refine (HPB.out w5 HO7.out).mono ?_
      rintro e w6 ⟨rfl, o6⟩
      have F6 := Lib.hid (F5.out.new o6)
      have HO8 := Lib.hid (HO7.out.trans o6)
      have c2' := (HI.out w6 HO8.out).cell 2 rfl
      clear o6 HPB c2 F5
      go_wp2_with fail
      refine (HZB.out w6 HO8.out).mono ?_
      rintro e w7 ⟨rfl, o7⟩
      have F7 := Lib.hid (F6.out.new o7)
      have HO9 := Lib.hid (HO8.out.trans o7)
      have HNW := Lib.hid (newWf w7)
      clear o7 HZB c2' F6
      go_wp2_with fail
      refine HNW.out.mono ?_
      rintro e w8 ⟨rfl, f8, o8⟩
      obtain ⟨u, hu⟩ : ∃ u, w7.heap.size = u := ⟨_, rfl⟩
      rw [hu] at f8 ⊢
      have G8 := Lib.hid f8
      have F8 := Lib.hid (F7.out.new o8)
      have HO10 := Lib.hid (HO9.out.trans o8)
      have c2 := (HI.out w8 HO10.out).cell 2 rfl
      clear f8 o8 HNW F7
      go_wp2_with fail
      refine (HOB.out u w8 HO10.out).mono ?_
      rintro e w9 ⟨rfl, o9⟩
      have F9 := Lib.hid (F8.out.new o9)
      have G9 := Lib.hid (G8.out.new o9)
      have HO11 := Lib.hid (HO10.out.trans o9)
      have c2' := (HI.out w9 HO11.out).cell 2 rfl
      clear o9 HOB c2 F8 G8
      go_wp2_with fail
      refine (HM11.out w9 HO11.out).mono ?_
      rintro e w10 ⟨rfl, o10⟩
      have F10 := Lib.hid (F9.out.new o10)
      have G10 := Lib.hid (G9.out.new o10)
      have HO12 := Lib.hid (HO11.out.trans o10)
      clear o10 HM11 c2' F9 G9
      go_wp2_with fail
      refine (wlen v _ _ w10 F10.out).mono ?_
      rintro e _ ⟨rfl, rfl⟩
      go_wp2_with fail
      refine (wlen u _ _ w10 G10.out).mono ?_
      rintro e _ ⟨rfl, rfl⟩
      go_wp2
      go_ret
      exact ⟨rfl, HOa.out.trans HO12.out⟩
    | true =>
      have HP5 : Hid (Calls Tryz.prog 12 #[.pointer (some ⟨v, 0, none⟩), .slice A n c, .bool last] w5 (StP w5 v (fun j => j = v) (plainB ts last))) := Lib.hid (by
        have := plain v _ [] A n c _ ts last w5 F5.out (HSee.out w5 HO7.out) (fun h0 j hj => ⟨fun e => by have h1 := HLt.out h0 j hj; have h2 := HV.out; have h3 := HWa.out; omega, by have h1 := HLt.out h0 j hj; have h2 := HO7.out.size; have h3 := HWa.out; omega⟩) hn (by omega) (by decide) hmm
        rw [List.nil_append] at this
        exact this)
      go_wp2_with fail
      refine HP5.out.mono ?_
      rintro e w6 ⟨rfl, q6⟩
      have HP6 := Lib.hid q6.wf
      have HO8 : Hid (Only (fun _ => False) wa w6) := Lib.hid (HO7.out.andThen q6.only fun j e => .inr (by rw [e]; exact HV.out.1))
      have HZ := Lib.hid (sizes A n c _ ts w6 (HSee.out w6 HO8.out) hn (by omega) hmm)
      have c2' := (HI.out w6 HO8.out).cell 2 rfl
      clear q6 HP5 c2
      obtain ⟨x, hx⟩ : ∃ x, plainN ts = x := ⟨_, rfl⟩
      obtain ⟨y, hy⟩ : ∃ y, ownN ts = y := ⟨_, rfl⟩
      have hpl : (plainB ts last).length = x := by rw [plain_size ts last hmm, hx]
      have hol : (ownBits ts last).length = y := by rw [own_size ts last hmm, hy]
      rw [hx, hy] at HZ
      have HPL := Lib.hid hpl
      have HOL := Lib.hid hol
      clear hx hy hpl hol
      go_wp2_with fail
      refine HZ.out.mono ?_
      rintro e w7 ⟨rfl, o7⟩
      have HP7 := Lib.hid ((HP6.out.new o7).tight)
      have HO9 := Lib.hid (HO8.out.trans o7)
      have HNW := Lib.hid (newWf w7)
      clear o7 HZ HP6 c2'
      go_wp2_with fail
      refine HNW.out.mono ?_
      rintro e w8 ⟨rfl, f8, o8⟩
      obtain ⟨u, hu⟩ : ∃ u, w7.heap.size = u := ⟨_, rfl⟩
      rw [hu] at f8 ⊢
      have F8 := Lib.hid f8
      have HP8 := Lib.hid (HP7.out.new o8)
      have HU : Hid (wa.heap.size ≤ u ∧ v < u ∧ u < w8.heap.size) := Lib.hid ⟨by rw [← hu]; exact HO9.out.size, by
        rw [← hu]
        obtain ⟨_, _, _, _, hw, _⟩ := HP7.out
        exact hw.wr.1.lt, by
        obtain ⟨_, _, _, _, hw, _⟩ := f8
        exact hw.wr.1.lt⟩
      have HO10 := Lib.hid (HO9.out.trans o8)
      have c2 := (HI.out w8 HO10.out).cell 2 rfl
      have HP9 : Hid (Calls Tryz.prog 14 #[.pointer (some ⟨u, 0, none⟩), .slice A n c, .bool last] w8 (StP w8 u (fun j => j = u) (ownBits ts last))) := Lib.hid (by
        have := own u _ [] A n c _ ts last w8 F8.out (HSee.out w8 HO10.out) (fun h0 j hj => ⟨fun e => by have h1 := HLt.out h0 j hj; have h2 := HU.out; have h3 := HWa.out; omega, by have h1 := HLt.out h0 j hj; have h2 := HO10.out.size; have h3 := HWa.out; omega⟩) hn (by omega) (by decide) hmm
        rw [List.nil_append] at this
        exact this)
      clear f8 o8 HNW HP7
      go_wp2_with fail
      refine HP9.out.mono ?_
      rintro e w9 ⟨rfl, q9⟩
      have HQ9 := Lib.hid q9.wf
      have HP10 := Lib.hid (HP8.out.far q9.only fun j e1 e2 => by have h1 := HU.out; have h2 := HV.out; have h3 := e1.2; omega)
      have HO11 : Hid (Only (fun _ => False) wa w9) := Lib.hid (HO10.out.andThen q9.only fun j e => .inr (by rw [e]; exact HU.out.1))
      have HM11 : Hid (∀ wx, Only (fun _ => False) wa wx → Calls Tryz.prog 15 #[.slice A n c] wx fun e w' => e = .returned (.bool true) ∧ Only (fun _ => False) wx w') := Lib.hid fun wx ho => by
        have := rmay11 A n c _ ts wx (HSee.out wx ho) hn (by omega)
        rw [hmm] at this
        exact this
      have c2' := (HI.out w9 HO11.out).cell 2 rfl
      clear q9 HP9 c2 HP8 F8
      go_wp2_with fail
      refine (HM11.out w9 HO11.out).mono ?_
      rintro e w10 ⟨rfl, o10⟩
      have HQ10 := Lib.hid (HQ9.out.new o10)
      have HP11 := Lib.hid (HP10.out.new o10)
      have HO12 := Lib.hid (HO11.out.trans o10)
      have HRP := Lib.hid (rplain A n c ts last w10 ((HSee.out w10 HO12.out).more (by have h1 := HO12.out.size; have h2 := HWa.out; omega)) hn (by omega) hmm)
      have c2 := (HI.out w10 HO12.out).cell 2 rfl
      clear o10 HM11 HQ9 HP10 HO11 c2'
      go_wp2_with fail
      refine HRP.out.mono ?_
      rintro e w11 ⟨A2, c3, n2, rfl, hl2, hs2, o11⟩
      have HQ11 := Lib.hid (HQ10.out.new o11)
      have HP12 := Lib.hid (HP11.out.new o11)
      have HO13 := Lib.hid (HO12.out.trans o11)
      obtain rfl : x = n2 := by rw [← hl2]; exact HPL.out.symm
      obtain ⟨T2, hT2⟩ := one_text (plainB ts last)
      have HT2 := Lib.hid hT2
      have HR2 : Hid (Calls Tryz.prog 10 #[.slice A2 x c3] w11 fun e w' => e = .returned (.string T2) ∧ Only (fun _ => False) w11 w') := Lib.hid (by
        refine (rtext A2 x c3 (plainB ts last) w11 (hs2.sees hl2) (plain_isbits ts last) (by rw [← hl2]; exact Nat.le_trans (plain_len ts last (by omega) hmm) (by decide))).mono ?_
        rintro e w' ⟨t, rfl, t1, t2, t3⟩
        rw [HT2.out ⟨t.toArray⟩ ⟨by show t.toArray.size = _; rw [hl2, List.size_toArray, t1], by show le t = _; exact t2⟩]
        exact ⟨rfl, t3⟩)
      clear hl2 hs2 o11 hT2 HQ10 HP11 HO12 HRP c2
      go_wp2_with fail
      refine (wtext v _ _ w11 HP12.out).mono ?_
      rintro e _ ⟨⟨t, rfl, ht⟩, rfl⟩
      obtain rfl := HT2.out t ht
      clear ht
      go_wp2_with fail
      refine HR2.out.mono ?_
      rintro e w12 ⟨rfl, o12⟩
      have HQ12 := Lib.hid (HQ11.out.new o12)
      have HP13 := Lib.hid (HP12.out.new o12)
      have HO14 := Lib.hid (HO13.out.trans o12)
      clear o12 HR2 HQ11 HP12 HO13
      go_wp2_with fail
      refine (wlen v _ _ w12 HP13.out).mono ?_
      rintro e _ ⟨rfl, rfl⟩
      rw [HPL.out]
      go_wp2_with fail
      refine (wlen u _ _ w12 HQ12.out).mono ?_
      rintro e _ ⟨rfl, rfl⟩
      rw [HOL.out]
      go_wp2
      go_ret
      exact ⟨rfl, HOa.out.trans HO14.out⟩
end Go.Proofs.YtjlkjebmilfgoaaGreat
