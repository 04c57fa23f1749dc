/- Layer 11, the program: how many bits blocks take. -/
import Derived.Test.YtoclbodmibagpaaKLWrite
import Derived.Test.YtoclbodmibagpaaKPlain
namespace Go.Proofs.Ytoclbodmibagpaa
open Go.RowKit

/-- A whole struct loaded in a region that draws its order. -/
theorem yields_st {P : Program} {a : Act} {o : Oper} (ty : TypeId) (x : Operand) (ho : o.op = .load ty x) (g : Nat) (hx : a.eval x = .pointer (some ⟨g, 0, none⟩)) (t : TypeId) (cs : List Value) {d : TypeDesc} (hu : P.underlying ty = some d) (hd : (match d with | .struct _ | .array _ _ => true | _ => false) = true)
    (hi : (P.info? ty).map (·.size) = some cs.length) (W : World) (hg : Is W g t cs) : (execOp a.eval o).run P W = .ok (.value (.agg cs.toArray)) W := by
  unfold execOp
  simp only [ho, hx, Instr.loadAt, Instr.sureAddr, Sem.run_bind, Sem.run_pure, Result.andThen_ok, run_loadVar_row W g t ty cs.toArray (0, 0) _ hg hu hd (by simpa using hi)]

set_option maxRecDepth 20000 in
set_option maxHeartbeats 4000000 in
theorem lsize (lo hi : Nat) (L : List Nat) (g1 g2 : Nat) (A3 : Option Addr) (q3 c3 g4 : Nat) (w : World) (hl : LnsAt lo hi w L g1 g2 A3 q3 g4) (hhi : hi ≤ w.heap.size) (hL : L.length = 317) :
    Calls Try.prog 55 #[lnsV L g1 g2 A3 q3 c3 g4] w fun e w' => e = .returned (.int .i64 ((hdrB L).length : Nat)) ∧ Only (fun _ => False) w w' := by
  obtain ⟨nA, hnA⟩ : ∃ nA, (ownA L).length = nA := ⟨_, rfl⟩
  obtain ⟨nB, hnB⟩ : ∃ nB, (ownB L).length = nB := ⟨_, rfl⟩
  have hV : lnsV L g1 g2 A3 q3 c3 g4 = .agg #[.slice (some ⟨g1, 0, none⟩) nA 286, .slice (some ⟨g2, 0, none⟩) nB 30, .slice A3 q3 c3, .slice (some ⟨g4, 0, none⟩) 19 19] := by unfold lnsV; rw [hnA, hnB]
  obtain ⟨wa, hwa⟩ : ∃ wa, w.alloc (.cells #[.slice (some ⟨g1, 0, none⟩) nA 286, .slice (some ⟨g2, 0, none⟩) nB 30, .slice A3 q3 c3, .slice (some ⟨g4, 0, none⟩) 19 19] 115) = wa := ⟨_, rfl⟩
  have hoa : Only (fun _ => False) w wa := by rw [← hwa]; exact (Only.refl _ w).alloc _
  obtain ⟨K, hK⟩ : ∃ K, w.heap.size = K := ⟨_, rfl⟩
  have hIa : Is wa K 115 [.slice (some ⟨g1, 0, none⟩) nA 286, .slice (some ⟨g2, 0, none⟩) nB 30, .slice A3 q3 c3, .slice (some ⟨g4, 0, none⟩) 19 19] := by rw [← hwa, ← hK]; exact Is.new w _ _
  have HNW := Lib.hid (newWf wa)
  have HW : Hid (∀ wx b, Wf wx b (fun j => j = b) [] → wa.heap.size ≤ b → Only (fun _ => False) wa wx → Calls Try.prog 84 #[.agg #[.slice (some ⟨g1, 0, none⟩) nA 286, .slice (some ⟨g2, 0, none⟩) nB 30, .slice A3 q3 c3, .slice (some ⟨g4, 0, none⟩) 19 19], .pointer (some ⟨b, 0, none⟩)] wx (PutW wx b (fun j => j = b) (hdrB L))) := Lib.hid fun wx b hw hb ho => by
    have := lwrite b _ [] lo hi L g1 g2 A3 q3 c3 g4 wx hw (hl.new (hoa.trans ho)) (fun j _ h2 e => by have := hoa.size; omega) (by have := hoa.size; have := ho.size; omega) (by simp) hL
    rw [hV, List.nil_append] at this
    exact this
  have HLn : Hid (∀ wx wy b F, WfP wx b F (hdrB L) wy → Calls Try.prog 20 #[.pointer (some ⟨b, 0, none⟩)] wy fun e w' => e = .returned (.int .i64 ((hdrB L).length : Nat)) ∧ wy = w') := Lib.hid fun wx wy b F hw => wlen b _ _ wy hw.wf
  have HO := Lib.hid hoa
  have HIa : Hid (∀ wx, Only (fun _ => False) wa wx → Is wx K 115 [.slice (some ⟨g1, 0, none⟩) nA 286, .slice (some ⟨g2, 0, none⟩) nB 30, .slice A3 q3 c3, .slice (some ⟨g4, 0, none⟩) 19 19]) := Lib.hid fun wx ho => hIa.only ho fun f => f
  rw [hV]
  obtain ⟨R, hR⟩ : ∃ R, (hdrB L).length = R := ⟨_, rfl⟩
  rw [hR] at HLn ⊢
  clear hl hhi hL hoa hIa hnA hnB hV hR
  go_enter Try.func55, Try.ntmps55
  go_wp2_with fail
  refine HNW.out.mono ?_
  rintro e w1 ⟨rfl, hwf, o1⟩
  obtain ⟨b, hb⟩ : ∃ b, wa.heap.size = b := ⟨_, rfl⟩
  rw [hb] at hwf ⊢
  have HW1 := Lib.hid (HW.out w1 b hwf (by omega) o1)
  have HO1 := Lib.hid o1
  have HI1 := Lib.hid (HIa.out w1 o1)
  have Hb := Lib.hid hb
  have i0 := HI1.out.cell 0 rfl
  have i1 := HI1.out.cell 1 rfl
  have i2 := HI1.out.cell 2 rfl
  have i3 := HI1.out.cell 3 rfl
  clear hwf o1 HNW HW HIa hb
  go_wp2_with fail
  refine HW1.out.mono ?_
  rintro e w2 ⟨rfl, q2⟩
  have H2 := Lib.hid (HLn.out w1 w2 b _ q2)
  have HO2 : Hid (Only (fun _ => False) w w2) := Lib.hid ((HO.out.trans HO1.out).andThen q2.only fun j e => .inr (by have := HO.out.size; have := Hb.out; omega))
  clear q2 HW1 HLn i0 i1 i2 i3
  go_wp2_with fail
  refine H2.out.mono ?_
  rintro e w3 ⟨rfl, rfl⟩
  go_wp2
  go_ret
  exact ⟨rfl, HO2.out⟩

set_option maxRecDepth 20000 in
set_option maxHeartbeats 4000000 in
theorem lcodes (lo hi : Nat) (L : List Nat) (g1 g2 : Nat) (A3 : Option Addr) (q3 c3 g4 : Nat) (w : World) (hl : LnsAt lo hi w L g1 g2 A3 q3 g4) (hhi : hi ≤ w.heap.size) (hL : L.length = 317) :
    Calls Try.prog 56 #[lnsV L g1 g2 A3 q3 c3 g4] w (Codes2P w (ownA L) (ownB L)) := by
  have hA := ownA_len hL
  have hB := ownB_len hL
  obtain ⟨nA, hnA⟩ : ∃ nA, (ownA L).length = nA := ⟨_, rfl⟩
  obtain ⟨nB, hnB⟩ : ∃ nB, (ownB L).length = nB := ⟨_, rfl⟩
  rw [hnA] at hA
  rw [hnB] at hB
  have hV : lnsV L g1 g2 A3 q3 c3 g4 = .agg #[.slice (some ⟨g1, 0, none⟩) nA 286, .slice (some ⟨g2, 0, none⟩) nB 30, .slice A3 q3 c3, .slice (some ⟨g4, 0, none⟩) 19 19] := by unfold lnsV; rw [hnA, hnB]
  obtain ⟨wa, hwa⟩ : ∃ wa, w.alloc (.cells #[.slice (some ⟨g1, 0, none⟩) nA 286, .slice (some ⟨g2, 0, none⟩) nB 30, .slice A3 q3 c3, .slice (some ⟨g4, 0, none⟩) 19 19] 115) = wa := ⟨_, rfl⟩
  obtain ⟨wb, hwb⟩ : ∃ wb, wa.alloc (.cells #[.pointer none, .pointer none] 105) = wb := ⟨_, rfl⟩
  have hoa : Only (fun _ => False) w wa := by rw [← hwa]; exact (Only.refl _ w).alloc _
  have hob : Only (fun _ => False) wa wb := by rw [← hwb]; exact (Only.refl _ wa).alloc _
  obtain ⟨K, hK⟩ : ∃ K, w.heap.size = K := ⟨_, rfl⟩
  obtain ⟨K2, hK2⟩ : ∃ K2, wa.heap.size = K2 := ⟨_, rfl⟩
  have hIa : Is wb K 115 [.slice (some ⟨g1, 0, none⟩) nA 286, .slice (some ⟨g2, 0, none⟩) nB 30, .slice A3 q3 c3, .slice (some ⟨g4, 0, none⟩) 19 19] := by
    have : Is wa K 115 [.slice (some ⟨g1, 0, none⟩) nA 286, .slice (some ⟨g2, 0, none⟩) nB 30, .slice A3 q3 c3, .slice (some ⟨g4, 0, none⟩) 19 19] := by rw [← hwa, ← hK]; exact Is.new w _ _
    exact this.only hob fun f => f
  have hIb : Is wb K2 105 [.pointer none, .pointer none] := by rw [← hwb, ← hK2]; exact Is.new wa _ _
  have hlb := hl.new (hoa.trans hob)
  have zb := (hoa.trans hob).size
  have HN : Hid (Calls Try.prog 72 #[.slice (some ⟨g1, 0, none⟩) nA 286, .slice (some ⟨g2, 0, none⟩) nB 30] wb (Codes2P wb (ownA L) (ownB L))) := Lib.hid (bnewCodes _ _ nA 286 nB 30 _ _ wb (hlb.s1.more (by omega)) (hlb.s2.more (by omega)) hnA hnB (by omega) (by omega) (ownA_low hL) (ownB_low hL) (kdA hL) (kdB hL))
  have FIN : Hid (∀ w4 T1 T2 hh, Only (fun _ => False) wb w4 → Cod2 w4 wb.heap.size hh T1 T2 (ownA L) (ownB L) →
      Codes2P w (ownA L) (ownB L) (.returned (.agg #[.pointer (some ⟨T1, 0, none⟩), .pointer (some ⟨T2, 0, none⟩)])) ((w4.setCell ⟨K2, 0, none⟩ (.pointer (some ⟨T1, 0, none⟩))).setCell ⟨K2, 1, none⟩ (.pointer (some ⟨T2, 0, none⟩))) ∧ Is w4 K2 105 [.pointer none, .pointer none] ∧ Is ((w4.setCell ⟨K2, 0, none⟩ (.pointer (some ⟨T1, 0, none⟩))).setCell ⟨K2, 1, none⟩ (.pointer (some ⟨T2, 0, none⟩))) K2 105 [.pointer (some ⟨T1, 0, none⟩), .pointer (some ⟨T2, 0, none⟩)]) := Lib.hid fun w4 T1 T2 hh o4 hc => by
    have i4 := hIb.only o4 fun f => f
    have ow : Only (· = K2) w4 ((w4.setCell ⟨K2, 0, none⟩ (.pointer (some ⟨T1, 0, none⟩))).setCell ⟨K2, 1, none⟩ (.pointer (some ⟨T2, 0, none⟩))) := (Only.one w4 K2 0 _).trans (Only.one _ K2 1 _)
    have hka := hIb.lt
    have za := hoa.size
    have hk := hc.keep ow fun j a b e => by omega
    refine ⟨⟨T1, T2, hh, rfl, ⟨hk.t1.less (by omega), hk.t2.less (by omega), hk.h1, hk.h2, hk.hh, hk.l1, hk.l2⟩, ((hoa.trans hob).trans o4).andThen ow fun j e => .inr (by omega)⟩, i4, (i4.set 0 _).set 1 _⟩
  have i0 := hIa.cell 0 rfl
  have i1 := hIa.cell 1 rfl
  rw [hV]
  clear hl hhi hL hoa hob hIa hIb hnA hnB hV hlb zb hA hB
  go_enter Try.func56, Try.ntmps56
  go_wp2_with fail
  refine HN.out.mono ?_
  rintro e w4 ⟨T1, T2, hh, rfl, hc, o4⟩
  obtain ⟨f1, f2, f3⟩ := FIN.out w4 T1 T2 hh o4 hc
  have HF := Lib.hid f1
  have HF3 := Lib.hid f3
  have g0 := f2.cell 0 rfl
  have g1' := f2.cell 1 rfl
  have z0 := f2.frozen 0
  have z1 := f2.frozen 1
  clear f1 f2 f3 hc o4 HN FIN i0 i1
  go_wp2
  refine bodyPost_ret (results_cell_row rfl _ _ K2 105 _ (0, 0) _ rfl HF3.out Try.underlying105 rfl (by kernel_rfl)) rfl ?_
  exact HF.out
end Go.Proofs.Ytoclbodmibagpaa
