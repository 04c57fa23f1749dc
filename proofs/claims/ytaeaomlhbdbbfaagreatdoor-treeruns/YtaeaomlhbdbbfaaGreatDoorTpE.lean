/- Layer 15, the landed program: a node is put into the tree. -/
import Derived.Test.YtaeaomlhbdbbfaaGreatDoorTpD
import Derived.Test.YtaeaomlhbdbbfaaGreatDoorTnI
import Derived.Test.YtaeaomlhbdbbfaaGreatDoorGSteps
namespace Go.Proofs.YtaeaomlhbdbbfaaGreatDoor
open Go.RowKit

/-- A struct is stored over some cells. -/
theorem exec_store_cells {P : Program} {o : Oper} {a : Act} {w w' : World} (ty : TypeId) (x y : Operand) (ho : o.op = .store ty x y) (b i : Nat) (cells : List Value) (hx : a.eval x = .pointer (some ⟨b, i, none⟩)) (hy : a.eval y = .agg cells.toArray) (hi : (P.info? ty).map (·.size) = some cells.length) (hr : (storeCells ⟨b, i, none⟩ cells).run P w = .ok () w') : (execOp a.eval o).run P w = .ok .skip w' := by
  have hsv : (storeVar ty ⟨b, i, none⟩ (.agg cells.toArray)).run P w = .ok () w' := by
    cases hq : P.info? ty with
    | none => simp [hq] at hi
    | some j =>
      have hs : cells.length = j.size := by simp [hq] at hi; omega
      simp [storeVar, sizeOf, typeInfo, hq, Value.cells, hs, hr]
  unfold execOp
  simp only [ho, hx, hy, Instr.storeAt, Instr.sureAddr, Sem.run_bind, Sem.run_pure, Result.andThen_ok, hsv]
theorem nds_set (ps : List Nd) (k : Nat) (x : Nd) (hk : k < ps.length) : (nds ps).take (k * 5) ++ ndVals x ++ (nds ps).drop (k * 5 + (ndVals x).length) = nds (ps.set k x) := by
  rw [List.set_eq_take_append_cons_drop, if_pos hk, nds_app, nds_cut, List.append_assoc, show nds (x :: ps.drop (k + 1)) = ndVals x ++ nds (ps.drop (k + 1)) from rfl, nds_rest, show (ndVals x).length = 5 from rfl, show (k + 1) * 5 = k * 5 + 5 by omega]
/-- What a call that changes a tree leaves of it. -/
def EdT (w : World) (g : Nat) (A : Option Addr) (qs : List Nd) (w' : World) : Prop := ∃ A' c', TrAt w' g A' c' qs ∧ (∀ j, Lies A' j → Lies A j ∨ w.heap.size ≤ j) ∧ Only (fun q => q = g ∨ Lies A q) w w'
set_option maxRecDepth 20000 in
set_option maxHeartbeats 16000000 in
theorem psetV (g : Nat) (A : Option Addr) (c : Nat) (ps : List Nd) (pa : List UInt8) (di : Bool) (da : List UInt8) (mo ti : Int) (w : World) (h : TrAt w g A c ps) (hb : ps.length ≤ 9000) (hs : Srt ps) (hin : ShortP ps) (hp : pa.length ≤ 2000) :
    Calls Tryz.prog 29 #[.pointer (some ⟨g, 0, none⟩), .agg #[.string (tx pa), .bool di, .string (tx da), .int .i64 mo, .int .i64 ti]] w fun e w' => e = .returned (.tuple #[]) ∧ EdT w g A (setT ps ⟨pa, di, da, mo, ti⟩) w' := by
  obtain ⟨n, hn⟩ : ∃ n, ps.length = n := ⟨_, rfl⟩
  have HT := Lib.hid h
  have HFW : Hid (∀ w1, Only (fun _ => False) w w1 → Calls Tryz.prog 31 #[.slice A n c, .string (tx pa)] w1 fun e w' => e = .returned (.tuple #[.int .i64 (posT ps pa), .bool (thereT ps pa)]) ∧ Only (fun _ => False) w1 w') := Lib.hid fun w1 o => pfind A n c _ ps pa w1 (h.row.see.new o) hn (by omega) hs (fun x hx => by have := hin x hx; omega) (by omega)
  have HST : Hid (setT ps ⟨pa, di, da, mo, ti⟩ = if thereT ps pa = true then ps.set (posT ps pa) ⟨pa, di, da, mo, ti⟩ else ps.take (posT ps pa) ++ ⟨pa, di, da, mo, ti⟩ :: ps.drop (posT ps pa)) := Lib.hid (set_pos hs _)
  have HN := Lib.hid hn
  have hle : posT ps pa ≤ n := by rw [← hn]; exact pos_le pa ps
  have hlt : thereT ps pa = true → posT ps pa < n := fun ht => by rw [← hn]; exact ((there_iff ps pa).1 ht).1
  have dg : w.cell? ⟨g, 0, none⟩ = some (.slice A n c) := by rw [← hn]; exact h.hold.cell 0 rfl
  have HLT := Lib.hid h.hold.lt
  have HLA := Lib.hid (rs_lies h.row)
  rw [hn] at hb
  clear hin hs hn h
  generalize posT ps pa = po at *
  obtain ⟨X, hX⟩ : ∃ X, w.heap.size = X := ⟨_, rfl⟩
  obtain ⟨w0, hw0⟩ : ∃ w0, w.alloc (.cells #[.string (tx pa), .bool di, .string (tx da), .int .i64 mo, .int .i64 ti] 29) = w0 := ⟨_, rfl⟩
  have HI : Hid (Is w0 X 29 [.string (tx pa), .bool di, .string (tx da), .int .i64 mo, .int .i64 ti]) := Lib.hid (by
    rw [← hw0, ← hX]
    exact Is.new w _ _)
  have HFR : Hid (Only (fun _ => False) w w0) := Lib.hid (by
    rw [← hw0]
    exact (Only.refl _ w).alloc _)
  have HXX := Lib.hid hX
  cases hth : thereT ps pa with
  | true =>
    rw [hth] at HFW HST
    have hpo := hlt hth
    have hpo2 : (po : Int) < (n : Int) := by omega
    clear hth hlt
    obtain ⟨G, rfl, hG⟩ := HT.out.row.base (by have := HT.out.row.cap; rw [HN.out] at this; omega)
    have HGG : Hid (g ≠ G) := Lib.hid fun e => HT.out.far ⟨_, rfl, e.symm⟩
    go_enter Tryz.func29, Tryz.ntmps29
    go_upto_region 1 with fail
    refine Steps.region (fun W => W.cell? ⟨g, 0, none⟩ = some (.slice (some ⟨G, 0, none⟩) n c) ∧ W.cell? ⟨X, 0, none⟩ = some (.string (tx pa))) [(true, 0), (true, 1), (true, 2), (true, 3), (true, 4), (true, 5), (false, 6), (true, 7), (true, 8), (true, 9), (true, 10), (true, 11)] (by kernel_rfl) (by kernel_rfl) rfl (by kernel_rfl) (fun _ _ d _ _ h => by cases d <;> exact h) ?_
    have HSW : Hid (w0.drew.cell? ⟨g, 0, none⟩ = some (.slice (some ⟨G, 0, none⟩) n c) ∧ w0.drew.cell? ⟨X, 0, none⟩ = some (.string (tx pa))) := Lib.hid ⟨only_cell dg HFR.out.drew, HI.out.cell 0 rfl⟩
    refine Steps.wanted (.pointer (some ⟨g, 0, none⟩)) rfl (by rfl) HSW.out (fun W hW => by kernel_rfl) ?_
    simp only [Act.put, List.setIfInBounds_toArray, List.set_cons_succ, List.set_cons_zero]
    refine Steps.wanted (.pointer (some ⟨g, 0, none⟩)) rfl (by rfl) HSW.out (fun W hW => by go_simp) ?_
    simp only [Act.put, List.setIfInBounds_toArray, List.set_cons_succ, List.set_cons_zero]
    refine Steps.wanted (.pointer (some ⟨g, 0, none⟩)) rfl (by rfl) HSW.out (fun W hW => by go_simp) ?_
    simp only [Act.put, List.setIfInBounds_toArray, List.set_cons_succ, List.set_cons_zero]
    refine Steps.wanted (.slice (some ⟨G, 0, none⟩) n c) rfl (by rfl) HSW.out (fun W hW => by have cc := hW.1; go_simp) ?_
    simp only [Act.put, List.setIfInBounds_toArray, List.set_cons_succ, List.set_cons_zero]
    refine Steps.wanted (.pointer (some ⟨X, 0, none⟩)) rfl (by rfl) HSW.out (fun W hW => by go_simp) ?_
    simp only [Act.put, List.setIfInBounds_toArray, List.set_cons_succ, List.set_cons_zero]
    refine Steps.wanted (.string (tx pa)) rfl (by rfl) HSW.out (fun W hW => by have cc := hW.2; go_simp) ?_
    simp only [Act.put, List.setIfInBounds_toArray, List.set_cons_succ, List.set_cons_zero]
    refine Steps.callG 31 #[.slice (some ⟨G, 0, none⟩) n c, .string (tx pa)] rfl (by rfl) (by kernel_rfl) ((HFW.out _ HFR.out.drew).mono ?_)
    rintro e w2 ⟨rfl, o2⟩
    have HO2 := Lib.hid (HFR.out.drew.trans o2)
    have HI2 := Lib.hid ((HI.out.drew).only o2 (fun f => f))
    have HSW2 := Lib.hid (And.intro (only_cell HSW.out.1 o2) (only_cell HSW.out.2 o2))
    clear HSW o2 HFW
    refine ⟨_, rfl, HSW2.out, ?_⟩
    simp only [Act.put, List.setIfInBounds_toArray, List.set_cons_succ, List.set_cons_zero]
    refine Steps.wanted (.tuple #[.int .i64 po, .bool true]) rfl (by rfl) HSW2.out (fun W hW => by kernel_rfl) ?_
    simp only [Act.put, List.setIfInBounds_toArray, List.set_cons_succ, List.set_cons_zero]
    refine Steps.wanted (.int .i64 po) rfl (by rfl) HSW2.out (fun W hW => by kernel_rfl) ?_
    simp only [Act.put, List.setIfInBounds_toArray, List.set_cons_succ, List.set_cons_zero]
    refine Steps.wanted (.bool true) rfl (by rfl) HSW2.out (fun W hW => by kernel_rfl) ?_
    simp only [Act.put, List.setIfInBounds_toArray, List.set_cons_succ, List.set_cons_zero]
    refine Steps.wanted (.int .i64 po) rfl (by rfl) HSW2.out (fun W hW => by kernel_rfl) ?_
    simp only [Act.put, List.setIfInBounds_toArray, List.set_cons_succ, List.set_cons_zero]
    refine Steps.wanted (.bool true) rfl (by rfl) HSW2.out (fun W hW => by kernel_rfl) ?_
    simp only [Act.put, List.setIfInBounds_toArray, List.set_cons_succ, List.set_cons_zero]
    show wpList _ _ _ _ _ _
    go_upto_region 3 with fail
    refine Steps.region (fun W => W.cell? ⟨g, 0, none⟩ = some (.slice (some ⟨G, 0, none⟩) n c) ∧ W.cell? ⟨X, 0, none⟩ = some (.string (tx pa)) ∧ W.cell? ⟨X, 1, none⟩ = some (.bool di) ∧ W.cell? ⟨X, 2, none⟩ = some (.string (tx da)) ∧ W.cell? ⟨X, 3, none⟩ = some (.int .i64 mo) ∧ W.cell? ⟨X, 4, none⟩ = some (.int .i64 ti)) [(true, 0), (true, 1), (true, 2), (true, 3), (true, 4), (true, 5), (true, 6), (false, 7)] (by kernel_rfl) (by kernel_rfl) rfl (by kernel_rfl) (fun _ _ d _ _ h => by cases d <;> exact h) ?_
    have HSW3 : Hid (w2.drew.cell? ⟨g, 0, none⟩ = some (.slice (some ⟨G, 0, none⟩) n c) ∧ w2.drew.cell? ⟨X, 0, none⟩ = some (.string (tx pa)) ∧ w2.drew.cell? ⟨X, 1, none⟩ = some (.bool di) ∧ w2.drew.cell? ⟨X, 2, none⟩ = some (.string (tx da)) ∧ w2.drew.cell? ⟨X, 3, none⟩ = some (.int .i64 mo) ∧ w2.drew.cell? ⟨X, 4, none⟩ = some (.int .i64 ti)) := Lib.hid ⟨HSW2.out.1, HSW2.out.2, HI2.out.cell 1 rfl, HI2.out.cell 2 rfl, HI2.out.cell 3 rfl, HI2.out.cell 4 rfl⟩
    refine Steps.wanted (.pointer (some ⟨g, 0, none⟩)) rfl (by rfl) HSW3.out (fun W hW => by kernel_rfl) ?_
    simp only [Act.put, List.setIfInBounds_toArray, List.set_cons_succ, List.set_cons_zero]
    refine Steps.wanted (.pointer (some ⟨g, 0, none⟩)) rfl (by rfl) HSW3.out (fun W hW => by go_simp) ?_
    simp only [Act.put, List.setIfInBounds_toArray, List.set_cons_succ, List.set_cons_zero]
    refine Steps.wanted (.pointer (some ⟨g, 0, none⟩)) rfl (by rfl) HSW3.out (fun W hW => by go_simp) ?_
    simp only [Act.put, List.setIfInBounds_toArray, List.set_cons_succ, List.set_cons_zero]
    refine Steps.wanted (.slice (some ⟨G, 0, none⟩) n c) rfl (by rfl) HSW3.out (fun W hW => by have cc := hW.1; go_simp) ?_
    simp only [Act.put, List.setIfInBounds_toArray, List.set_cons_succ, List.set_cons_zero]
    refine Steps.wanted (.int .i64 po) rfl (by rfl) HSW3.out (fun W hW => by kernel_rfl) ?_
    simp only [Act.put, List.setIfInBounds_toArray, List.set_cons_succ, List.set_cons_zero]
    refine Steps.wanted (.agg #[.string (tx pa), .bool di, .string (tx da), .int .i64 mo, .int .i64 ti]) rfl (by rfl) HSW3.out (fun W hW => by have c0 := hW.2.1; have c1 := hW.2.2.1; have c2 := hW.2.2.2.1; have c3 := hW.2.2.2.2.1; have c4 := hW.2.2.2.2.2; go_simp) ?_
    simp only [Act.put, List.setIfInBounds_toArray, List.set_cons_succ, List.set_cons_zero]
    refine Steps.wanted (.pointer (some ⟨G, po * 5, none⟩)) rfl (by rfl) HSW3.out (fun W hW => by go_simp) ?_
    simp only [Act.put, List.setIfInBounds_toArray, List.set_cons_succ, List.set_cons_zero]
    have hrow : Rs 29 5 w2.drew (some ⟨G, 0, none⟩) ps.length c (nds ps) := (HT.out.row.only HO2.out fun _ _ f => f).drew
    have hsz : po * 5 + (ndVals ⟨pa, di, da, mo, ti⟩).length ≤ ps.length * 5 := by rw [HN.out]; show po * 5 + 5 ≤ n * 5; omega
    obtain ⟨w3, hst, ho3, hw3, _⟩ := hrow.write (P := Tryz.prog) (po * 5) (ndVals ⟨pa, di, da, mo, ti⟩) (Nat.le_trans hsz (Nat.mul_le_mul_right _ hrow.cap.1)) (by simp [ndVals, Value.oneCell'])
    have hr3 := hw3 hsz
    rw [nds_set ps po _ (by rw [HN.out]; exact hpo)] at hr3
    refine Steps.skip rfl (exec_store_cells 29 (.tmp 23) (.tmp 22) rfl G (po * 5) (ndVals ⟨pa, di, da, mo, ti⟩) (by rfl) (by rfl) infoNd5 hst) ?_ ?_
    · have hk : ∀ i v, w2.drew.cell? ⟨g, i, none⟩ = some v → w3.cell? ⟨g, i, none⟩ = some v := fun i v hv => (World.cell?_of_block (ho3.block g (cell_lt hv) HGG.out)).trans hv
      have hXG : X ≠ G := by have := HLA.out G ⟨_, rfl, rfl⟩; have := HXX.out; omega
      have hk2 : ∀ i v, w2.drew.cell? ⟨X, i, none⟩ = some v → w3.cell? ⟨X, i, none⟩ = some v := fun i v hv => (World.cell?_of_block (ho3.block X (cell_lt hv) hXG)).trans hv
      exact ⟨hk _ _ HSW3.out.1, hk2 _ _ HSW3.out.2.1, hk2 _ _ HSW3.out.2.2.1, hk2 _ _ HSW3.out.2.2.2.1, hk2 _ _ HSW3.out.2.2.2.2.1, hk2 _ _ HSW3.out.2.2.2.2.2⟩
    have HF : Hid (EdT w g (some ⟨G, 0, none⟩) (setT ps ⟨pa, di, da, mo, ti⟩) w3) := Lib.hid (by
      rw [HST.out, if_pos rfl]
      refine ⟨some ⟨G, 0, none⟩, c, ⟨?_, ?_, HT.out.far⟩, fun j hj => .inl hj, ?_⟩
      · rw [List.length_set]
        exact ((HT.out.hold.only HO2.out (fun f => f)).drew).only ho3 HGG.out
      · rw [List.length_set]
        exact hr3
      · exact (HO2.out.drew.mono fun _ f => f.elim).trans (ho3.mono (by rintro j rfl; exact .inr ⟨_, rfl, rfl⟩)))
    clear hst ho3 hw3 hr3 hrow HSW3 HSW2
    simp only [Act.put]
    show wpList _ _ _ _ _ _
    go_wp2
    ((try simp only [Exit.inBlock, Exit.then]); refine bodyPost_ret (results_none rfl _ _ _) rfl ?_)
    exact ⟨rfl, HF.out⟩
  | false =>
    rw [hth] at HFW HST
    clear hth hlt
    go_enter Tryz.func29, Tryz.ntmps29
    go_upto_region 1 with fail
    refine Steps.region (fun W => W.cell? ⟨g, 0, none⟩ = some (.slice A n c) ∧ W.cell? ⟨X, 0, none⟩ = some (.string (tx pa))) [(true, 0), (true, 1), (true, 2), (true, 3), (true, 4), (true, 5), (false, 6), (true, 7), (true, 8), (true, 9), (true, 10), (true, 11)] (by kernel_rfl) (by kernel_rfl) rfl (by kernel_rfl) (fun _ _ d _ _ h => by cases d <;> exact h) ?_
    have HSW : Hid (w0.drew.cell? ⟨g, 0, none⟩ = some (.slice A n c) ∧ w0.drew.cell? ⟨X, 0, none⟩ = some (.string (tx pa))) := Lib.hid ⟨only_cell dg HFR.out.drew, HI.out.cell 0 rfl⟩
    refine Steps.wanted (.pointer (some ⟨g, 0, none⟩)) rfl (by rfl) HSW.out (fun W hW => by kernel_rfl) ?_
    simp only [Act.put, List.setIfInBounds_toArray, List.set_cons_succ, List.set_cons_zero]
    refine Steps.wanted (.pointer (some ⟨g, 0, none⟩)) rfl (by rfl) HSW.out (fun W hW => by go_simp) ?_
    simp only [Act.put, List.setIfInBounds_toArray, List.set_cons_succ, List.set_cons_zero]
    refine Steps.wanted (.pointer (some ⟨g, 0, none⟩)) rfl (by rfl) HSW.out (fun W hW => by go_simp) ?_
    simp only [Act.put, List.setIfInBounds_toArray, List.set_cons_succ, List.set_cons_zero]
    refine Steps.wanted (.slice A n c) rfl (by rfl) HSW.out (fun W hW => by have cc := hW.1; go_simp) ?_
    simp only [Act.put, List.setIfInBounds_toArray, List.set_cons_succ, List.set_cons_zero]
    refine Steps.wanted (.pointer (some ⟨X, 0, none⟩)) rfl (by rfl) HSW.out (fun W hW => by go_simp) ?_
    simp only [Act.put, List.setIfInBounds_toArray, List.set_cons_succ, List.set_cons_zero]
    refine Steps.wanted (.string (tx pa)) rfl (by rfl) HSW.out (fun W hW => by have cc := hW.2; go_simp) ?_
    simp only [Act.put, List.setIfInBounds_toArray, List.set_cons_succ, List.set_cons_zero]
    refine Steps.callG 31 #[.slice A n c, .string (tx pa)] rfl (by rfl) (by kernel_rfl) ((HFW.out _ HFR.out.drew).mono ?_)
    rintro e w2 ⟨rfl, o2⟩
    have HO2 := Lib.hid (HFR.out.drew.trans o2)
    have HI2 := Lib.hid ((HI.out.drew).only o2 (fun f => f))
    have HSW2 := Lib.hid (And.intro (only_cell HSW.out.1 o2) (only_cell HSW.out.2 o2))
    clear HSW o2 HFW
    refine ⟨_, rfl, HSW2.out, ?_⟩
    simp only [Act.put, List.setIfInBounds_toArray, List.set_cons_succ, List.set_cons_zero]
    refine Steps.wanted (.tuple #[.int .i64 po, .bool false]) rfl (by rfl) HSW2.out (fun W hW => by kernel_rfl) ?_
    simp only [Act.put, List.setIfInBounds_toArray, List.set_cons_succ, List.set_cons_zero]
    refine Steps.wanted (.int .i64 po) rfl (by rfl) HSW2.out (fun W hW => by kernel_rfl) ?_
    simp only [Act.put, List.setIfInBounds_toArray, List.set_cons_succ, List.set_cons_zero]
    refine Steps.wanted (.bool false) rfl (by rfl) HSW2.out (fun W hW => by kernel_rfl) ?_
    simp only [Act.put, List.setIfInBounds_toArray, List.set_cons_succ, List.set_cons_zero]
    refine Steps.wanted (.int .i64 po) rfl (by rfl) HSW2.out (fun W hW => by kernel_rfl) ?_
    simp only [Act.put, List.setIfInBounds_toArray, List.set_cons_succ, List.set_cons_zero]
    refine Steps.wanted (.bool false) rfl (by rfl) HSW2.out (fun W hW => by kernel_rfl) ?_
    simp only [Act.put, List.setIfInBounds_toArray, List.set_cons_succ, List.set_cons_zero]
    show wpList _ _ _ _ _ _
    go_upto_region 4 with fail
    obtain ⟨Y, hY⟩ : ∃ Y, w2.heap.size = Y := ⟨_, rfl⟩
    have HYY := Lib.hid hY
    have HPI : Hid (Calls Tryz.prog 47 #[.slice A n c, .int .i64 po, .slice (some ⟨Y, 0, none⟩) 1 1] (w2.drew.alloc (.cells #[.string (tx pa), .bool di, .string (tx da), .int .i64 mo, .int .i64 ti] 29)) fun e w5 => ∃ A5 m c5, e = .returned (.slice A5 m c5) ∧ w5.cell? ⟨g, 0, none⟩ = some (.slice A n c) ∧ w5.frozen? ⟨g, 0, none⟩ = false ∧ ((w5.cell? ⟨X, 0, none⟩ = some (.string (tx pa)) ∧ w5.cell? ⟨X, 1, none⟩ = some (.bool di) ∧ w5.cell? ⟨X, 2, none⟩ = some (.string (tx da)) ∧ w5.cell? ⟨X, 3, none⟩ = some (.int .i64 mo) ∧ w5.cell? ⟨X, 4, none⟩ = some (.int .i64 ti)) ∧ (w5.setCell ⟨g, 0, none⟩ (.slice A5 m c5)).cell? ⟨X, 0, none⟩ = some (.string (tx pa)) ∧ (w5.setCell ⟨g, 0, none⟩ (.slice A5 m c5)).cell? ⟨X, 1, none⟩ = some (.bool di) ∧ (w5.setCell ⟨g, 0, none⟩ (.slice A5 m c5)).cell? ⟨X, 2, none⟩ = some (.string (tx da)) ∧ (w5.setCell ⟨g, 0, none⟩ (.slice A5 m c5)).cell? ⟨X, 3, none⟩ = some (.int .i64 mo) ∧ (w5.setCell ⟨g, 0, none⟩ (.slice A5 m c5)).cell? ⟨X, 4, none⟩ = some (.int .i64 ti)) ∧ EdT w g A (setT ps ⟨pa, di, da, mo, ti⟩) (w5.setCell ⟨g, 0, none⟩ (.slice A5 m c5))) := by
      have hO4 : Only (fun _ => False) w2.drew (w2.drew.alloc (.cells #[.string (tx pa), .bool di, .string (tx da), .int .i64 mo, .int .i64 ti] 29)) := (Only.refl _ _).alloc _
      have hI4 : Is (w2.drew.alloc (.cells #[.string (tx pa), .bool di, .string (tx da), .int .i64 mo, .int .i64 ti] 29)) Y 29 (ndVals ⟨pa, di, da, mo, ti⟩) := by rw [← hY]; exact Is.new w2.drew _ _
      have HOA : Only (fun _ => False) w (w2.drew.alloc (.cells #[.string (tx pa), .bool di, .string (tx da), .int .i64 mo, .int .i64 ti] 29)) := HO2.out.drew.trans hO4
      generalize w2.drew.alloc (.cells #[.string (tx pa), .bool di, .string (tx da), .int .i64 mo, .int .i64 ti] 29) = w4 at hO4 hI4 HOA ⊢
      have hYA : ¬ Lies A Y := fun hl => by
        have h1 := HLA.out Y hl
        have h2 := HO2.out.size
        omega
      refine Lib.hid ((pinsert A n c ps po Y ⟨pa, di, da, mo, ti⟩ w4 (by have := HT.out.row.only HOA fun _ _ f => f; rw [HN.out] at this; exact this) HN.out (by omega) hle hI4 hYA).mono ?_)
      rintro e w5 ⟨A5, c5, rfl, hr5, ho5, hl5⟩
      rw [← show setT ps ⟨pa, di, da, mo, ti⟩ = _ from HST.out.trans (if_neg (by decide))] at hr5 ⊢
      have hg5 : Is w5 g 54 [.slice A n c] := by
        have := (HT.out.hold.only HOA (fun f => f)).only ho5 HT.out.far
        rw [HN.out] at this
        exact this
      have hXA : ¬ Lies A X := fun hl => by have h1 := HLA.out X hl; have := HXX.out; omega
      have hXg : X ≠ g := fun e => by have h1 := HLT.out; have := HXX.out; omega
      have hk : ∀ i v, w2.cell? ⟨X, i, none⟩ = some v → w5.cell? ⟨X, i, none⟩ = some v := fun i v hv => by
        have h4 := only_cell hv ((Only.refl (fun _ => False) w2).drew.trans hO4)
        exact (World.cell?_of_block (ho5.block X (cell_lt h4) hXA)).trans h4
      have hk6 : ∀ i v W', w2.cell? ⟨X, i, none⟩ = some v → Only (· = g) w5 W' → W'.cell? ⟨X, i, none⟩ = some v := fun i v W' hv ho => (World.cell?_of_block (ho.block X (cell_lt (hk i v hv)) hXg)).trans (hk i v hv)
      refine ⟨A5, _, c5, rfl, hg5.cell 0 rfl, hg5.frozen 0, ⟨⟨hk _ _ HSW2.out.2, hk _ _ (HI2.out.cell 1 rfl), hk _ _ (HI2.out.cell 2 rfl), hk _ _ (HI2.out.cell 3 rfl), hk _ _ (HI2.out.cell 4 rfl)⟩, hk6 _ _ _ HSW2.out.2 (Only.one w5 g 0 _), hk6 _ _ _ (HI2.out.cell 1 rfl) (Only.one w5 g 0 _), hk6 _ _ _ (HI2.out.cell 2 rfl) (Only.one w5 g 0 _), hk6 _ _ _ (HI2.out.cell 3 rfl) (Only.one w5 g 0 _), hk6 _ _ _ (HI2.out.cell 4 rfl) (Only.one w5 g 0 _)⟩, ?_⟩
      have hO6 : Only (· = g) w5 (w5.setCell ⟨g, 0, none⟩ (.slice A5 (setT ps ⟨pa, di, da, mo, ti⟩).length c5)) := Only.one w5 g 0 _
      have hlg : ¬ Lies A5 g := fun hl => by
        rcases hl5 g hl with q | q
        · exact HT.out.far q
        · have h1 := HLT.out
          have h2 := HOA.size
          omega
      refine ⟨A5, c5, ⟨hg5.set 0 _, hr5.only hO6 (by rintro j hj rfl; exact hlg hj), hlg⟩, fun j hj => (hl5 j hj).imp id fun q => Nat.le_trans HOA.size q, ?_⟩
      exact ((HOA.mono fun _ f => f.elim).trans (ho5.mono fun j hj => .inr hj)).trans (hO6.mono fun j hj => .inl hj)
    have e0 := HSW2.out.1
    have x0 := HSW2.out.2
    have x1 := HI2.out.cell 1 rfl
    have x2 := HI2.out.cell 2 rfl
    have x3 := HI2.out.cell 3 rfl
    have x4 := HI2.out.cell 4 rfl
    have HSX : Hid (w2.drew.cell? ⟨X, 0, none⟩ = some (.string (tx pa)) ∧ w2.drew.cell? ⟨X, 1, none⟩ = some (.bool di) ∧ w2.drew.cell? ⟨X, 2, none⟩ = some (.string (tx da)) ∧ w2.drew.cell? ⟨X, 3, none⟩ = some (.int .i64 mo) ∧ w2.drew.cell? ⟨X, 4, none⟩ = some (.int .i64 ti)) := Lib.hid ⟨x0, x1, x2, x3, x4⟩
    obtain ⟨w4, hw4⟩ : ∃ w4, w2.drew.alloc (.cells #[.string (tx pa), .bool di, .string (tx da), .int .i64 mo, .int .i64 ti] 29) = w4 := ⟨_, rfl⟩
    have HO4 : Hid (Only (fun _ => False) w2.drew w4) := Lib.hid (by rw [← hw4]; exact (Only.refl _ _).alloc _)
    have HPJ : Hid (Calls Tryz.prog 47 #[.slice A n c, .int .i64 po, .slice (some ⟨Y, 0, none⟩) 1 1] w4 fun e w5 => ∃ A5 m c5, e = .returned (.slice A5 m c5) ∧ w5.cell? ⟨g, 0, none⟩ = some (.slice A n c) ∧ w5.frozen? ⟨g, 0, none⟩ = false ∧ ((w5.cell? ⟨X, 0, none⟩ = some (.string (tx pa)) ∧ w5.cell? ⟨X, 1, none⟩ = some (.bool di) ∧ w5.cell? ⟨X, 2, none⟩ = some (.string (tx da)) ∧ w5.cell? ⟨X, 3, none⟩ = some (.int .i64 mo) ∧ w5.cell? ⟨X, 4, none⟩ = some (.int .i64 ti)) ∧ (w5.setCell ⟨g, 0, none⟩ (.slice A5 m c5)).cell? ⟨X, 0, none⟩ = some (.string (tx pa)) ∧ (w5.setCell ⟨g, 0, none⟩ (.slice A5 m c5)).cell? ⟨X, 1, none⟩ = some (.bool di) ∧ (w5.setCell ⟨g, 0, none⟩ (.slice A5 m c5)).cell? ⟨X, 2, none⟩ = some (.string (tx da)) ∧ (w5.setCell ⟨g, 0, none⟩ (.slice A5 m c5)).cell? ⟨X, 3, none⟩ = some (.int .i64 mo) ∧ (w5.setCell ⟨g, 0, none⟩ (.slice A5 m c5)).cell? ⟨X, 4, none⟩ = some (.int .i64 ti)) ∧ EdT w g A (setT ps ⟨pa, di, da, mo, ti⟩) (w5.setCell ⟨g, 0, none⟩ (.slice A5 m c5))) := Lib.hid (by rw [← hw4]; exact HPI.out)
    clear HFR HO2 HSW2 HI2 HPI
    have e4 := only_cell (w := w2.drew) e0 HO4.out
    have HSX4 : Hid (w4.cell? ⟨X, 0, none⟩ = some (.string (tx pa)) ∧ w4.cell? ⟨X, 1, none⟩ = some (.bool di) ∧ w4.cell? ⟨X, 2, none⟩ = some (.string (tx da)) ∧ w4.cell? ⟨X, 3, none⟩ = some (.int .i64 mo) ∧ w4.cell? ⟨X, 4, none⟩ = some (.int .i64 ti)) := Lib.hid ⟨only_cell (w := w2.drew) x0 HO4.out, only_cell (w := w2.drew) x1 HO4.out, only_cell (w := w2.drew) x2 HO4.out, only_cell (w := w2.drew) x3 HO4.out, only_cell (w := w2.drew) x4 HO4.out⟩
    refine Walk.region (fun W => W.cell? ⟨X, 0, none⟩ = some (.string (tx pa)) ∧ W.cell? ⟨X, 1, none⟩ = some (.bool di) ∧ W.cell? ⟨X, 2, none⟩ = some (.string (tx da)) ∧ W.cell? ⟨X, 3, none⟩ = some (.int .i64 mo) ∧ W.cell? ⟨X, 4, none⟩ = some (.int .i64 ti)) (.t 0 (.t 1 (.t 2 (.t 3 (.t 5 (.t 6 (.two 4 7 (.f 7 (.f 8 (.t 9 (.t 10 (.f 11 .nil))))) (.f 4 (.f 8 (.t 9 (.t 10 (.f 11 .nil)))))))))))) (by kernel_rfl) (by kernel_rfl) (by kernel_rfl) (fun _ _ d _ _ h => by cases d <;> exact h) ?_
    refine Walk.take (.pointer (some ⟨g, 0, none⟩)) rfl HSX.out (fun W hW => by kernel_rfl) ?_
    simp only [Act.put, List.setIfInBounds_toArray, List.set_cons_succ, List.set_cons_zero]
    refine Walk.take (.pointer (some ⟨g, 0, none⟩)) rfl HSX.out (fun W hW => by kernel_rfl) ?_
    simp only [Act.put, List.setIfInBounds_toArray, List.set_cons_succ, List.set_cons_zero]
    refine Walk.take (.pointer (some ⟨g, 0, none⟩)) rfl HSX.out (fun W hW => by go_simp) ?_
    simp only [Act.put, List.setIfInBounds_toArray, List.set_cons_succ, List.set_cons_zero]
    refine Walk.take (.pointer (some ⟨g, 0, none⟩)) rfl HSX.out (fun W hW => by go_simp) ?_
    simp only [Act.put, List.setIfInBounds_toArray, List.set_cons_succ, List.set_cons_zero]
    refine Walk.take (.int .i64 po) rfl HSX.out (fun W hW => by kernel_rfl) ?_
    simp only [Act.put, List.setIfInBounds_toArray, List.set_cons_succ, List.set_cons_zero]
    refine Walk.take (.agg #[.string (tx pa), .bool di, .string (tx da), .int .i64 mo, .int .i64 ti]) rfl HSX.out (fun W hW => by have c0 := hW.1; have c1 := hW.2.1; have c2 := hW.2.2.1; have c3 := hW.2.2.2.1; have c4 := hW.2.2.2.2; go_simp) ?_
    simp only [Act.put, List.setIfInBounds_toArray, List.set_cons_succ, List.set_cons_zero]
    refine ⟨op_value (.slice A n c) rfl (by go_simp) ⟨HSX.out, ?_⟩, op_value (.slice (some ⟨Y, 0, none⟩) 1 1) rfl (w' := w4) (by rw [← hw4, ← hY]; go_simp) ⟨HSX4.out, ?_⟩⟩
    · simp only [Act.put, List.setIfInBounds_toArray, List.set_cons_succ, List.set_cons_zero]
      refine op_value (.slice (some ⟨Y, 0, none⟩) 1 1) rfl (w' := w4) (by rw [← hw4, ← hY]; go_simp) ⟨HSX4.out, ?_⟩
      simp only [Act.put, List.setIfInBounds_toArray, List.set_cons_succ, List.set_cons_zero]
      refine op_call 47 #[.slice A n c, .int .i64 po, .slice (some ⟨Y, 0, none⟩) 1 1] rfl (by kernel_rfl) (HPJ.out.mono ?_)
      rintro e w5 ⟨A5, m5, c5, rfl, k0, k1, k2, k3⟩
      have HK := Lib.hid k3
      have HS5 := Lib.hid k2.1
      have HS6 := Lib.hid k2.2
      clear k2 k3
      refine ⟨_, rfl, HS5.out, ?_⟩
      simp only [Act.put, List.setIfInBounds_toArray, List.set_cons_succ, List.set_cons_zero]
      refine Walk.take (.pointer (some ⟨g, 0, none⟩)) rfl HS5.out (fun W hW => by go_simp) ?_
      simp only [Act.put, List.setIfInBounds_toArray, List.set_cons_succ, List.set_cons_zero]
      refine Walk.take (.pointer (some ⟨g, 0, none⟩)) rfl HS5.out (fun W hW => by go_simp) ?_
      simp only [Act.put, List.setIfInBounds_toArray, List.set_cons_succ, List.set_cons_zero]
      refine op_skip rfl (w' := w5.setCell ⟨g, 0, none⟩ (.slice A5 m5 c5)) (by go_simp) ⟨HS6.out, ?_⟩
      simp only [Act.put]
      show wpList _ _ _ _ _ _
      go_wp2
      go_end0
      exact ⟨rfl, HK.out⟩
    · simp only [Act.put, List.setIfInBounds_toArray, List.set_cons_succ, List.set_cons_zero]
      refine op_value (.slice A n c) rfl (by go_simp) ⟨HSX4.out, ?_⟩
      simp only [Act.put, List.setIfInBounds_toArray, List.set_cons_succ, List.set_cons_zero]
      refine op_call 47 #[.slice A n c, .int .i64 po, .slice (some ⟨Y, 0, none⟩) 1 1] rfl (by kernel_rfl) (HPJ.out.mono ?_)
      rintro e w5 ⟨A5, m5, c5, rfl, k0, k1, k2, k3⟩
      have HK := Lib.hid k3
      have HS5 := Lib.hid k2.1
      have HS6 := Lib.hid k2.2
      clear k2 k3
      refine ⟨_, rfl, HS5.out, ?_⟩
      simp only [Act.put, List.setIfInBounds_toArray, List.set_cons_succ, List.set_cons_zero]
      refine Walk.take (.pointer (some ⟨g, 0, none⟩)) rfl HS5.out (fun W hW => by go_simp) ?_
      simp only [Act.put, List.setIfInBounds_toArray, List.set_cons_succ, List.set_cons_zero]
      refine Walk.take (.pointer (some ⟨g, 0, none⟩)) rfl HS5.out (fun W hW => by go_simp) ?_
      simp only [Act.put, List.setIfInBounds_toArray, List.set_cons_succ, List.set_cons_zero]
      refine op_skip rfl (w' := w5.setCell ⟨g, 0, none⟩ (.slice A5 m5 c5)) (by go_simp) ⟨HS6.out, ?_⟩
      simp only [Act.put]
      show wpList _ _ _ _ _ _
      go_wp2
      go_end0
      exact ⟨rfl, HK.out⟩
end Go.Proofs.YtaeaomlhbdbbfaaGreatDoor
