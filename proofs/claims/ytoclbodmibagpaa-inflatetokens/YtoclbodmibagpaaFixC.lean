/- Layer 8, the program: the codes of blocks of kind 1, made once. -/
import Derived.Test.YtoclbodmibagpaaIB
import Derived.Test.YtoclbodmibagpaaKPl
namespace Go.Proofs.Ytoclbodmibagpaa
open Go.RowKit
theorem lens_fixA : Lens fixA := ⟨by unfold Low; decide +kernel, by decide +kernel⟩
theorem lens_fixB : Lens fixB := ⟨by unfold Low; decide +kernel, by decide +kernel⟩


def FixPost (w : World) (v : Value) (e : Ending) (w' : World) : Prop := e = .returned v ∧ Only (fun _ => False) w w'
set_option maxRecDepth 20000 in
set_option maxHeartbeats 2000000 in
theorem fixed_again (b d : Nat) (most : Int) (A : Option Addr) (n c T1 T2 : Nat) (kv : Value) (out : List UInt8) (w : World) (h : Str w b d most A n c kv (.pointer (some ⟨T1, 0, none⟩)) (.pointer (some ⟨T2, 0, none⟩)) out) :
    Calls Try.prog 64 #[.pointer (some ⟨d, 0, none⟩)] w (FixPost w (.agg #[.pointer (some ⟨T1, 0, none⟩), .pointer (some ⟨T2, 0, none⟩)])) := by
  obtain ⟨wa, hwa⟩ : ∃ wa, w.alloc (.cells #[.pointer none, .pointer none] 57) = wa := ⟨_, rfl⟩
  have hoa : Only (fun _ => False) w wa := by rw [← hwa]; exact (Only.refl _ w).alloc _
  have hia : Is wa w.heap.size 57 [.pointer none, .pointer none] := by rw [← hwa]; exact Is.new w 57 _
  obtain ⟨K, hK⟩ : ∃ K, w.heap.size = K := ⟨_, rfl⟩
  rw [hK] at hia
  have d4 := (h.new hoa).is.cell 4 rfl
  have d5 := (h.new hoa).is.cell 5 rfl
  have g0 := hia.cell 0 rfl
  have g1 := hia.cell 1 rfl
  have z0 := hia.frozen 0
  have z1 := hia.frozen 1
  have HF3 : Hid (Is ((wa.setCell ⟨K, 0, none⟩ (.pointer (some ⟨T1, 0, none⟩))).setCell ⟨K, 1, none⟩ (.pointer (some ⟨T2, 0, none⟩))) K 57 [.pointer (some ⟨T1, 0, none⟩), .pointer (some ⟨T2, 0, none⟩)]) := Lib.hid ((hia.set 0 _).set 1 _)
  have HF : Hid (Only (fun _ => False) w ((wa.setCell ⟨K, 0, none⟩ (.pointer (some ⟨T1, 0, none⟩))).setCell ⟨K, 1, none⟩ (.pointer (some ⟨T2, 0, none⟩)))) := Lib.hid (hoa.andThen ((Only.one wa K 0 _).trans (Only.one _ K 1 _)) fun j e => .inr (by omega))
  clear h hoa hia
  go_enter Try.func64, Try.ntmps64
  go_wp2
  refine bodyPost_ret (results_cell_row rfl _ _ K 57 _ (0, 0) _ rfl HF3.out Try.underlying57 rfl (by kernel_rfl)) rfl ?_
  exact ⟨rfl, HF.out⟩

def FixNew (w : World) (b d : Nat) (most : Int) (A : Option Addr) (n c : Nat) (kv : Value) (out : List UInt8) (e : Ending) (w' : World) : Prop := ∃ T1 T2 hi, e = .returned (.agg #[.pointer (some ⟨T1, 0, none⟩), .pointer (some ⟨T2, 0, none⟩)]) ∧ Cods w' w.heap.size hi T1 T2 fixA fixB ∧
  Str w' b d most A n c kv (.pointer (some ⟨T1, 0, none⟩)) (.pointer (some ⟨T2, 0, none⟩)) out ∧ Only (· = d) w w'
set_option maxRecDepth 20000 in
set_option maxHeartbeats 2000000 in
theorem fixed_new (b d : Nat) (most : Int) (A : Option Addr) (n c : Nat) (kv : Value) (out : List UInt8) (w : World) (h : Str w b d most A n c kv (.pointer none) (.pointer none) out) :
    Calls Try.prog 64 #[.pointer (some ⟨d, 0, none⟩)] w (FixNew w b d most A n c kv out) := by
  obtain ⟨wa, hwa⟩ : ∃ wa, w.alloc (.cells #[.pointer none, .pointer none] 57) = wa := ⟨_, rfl⟩
  have hoa : Only (fun _ => False) w wa := by rw [← hwa]; exact (Only.refl _ w).alloc _
  have hia : Is wa w.heap.size 57 [.pointer none, .pointer none] := by rw [← hwa]; exact Is.new w 57 _
  obtain ⟨K, hK⟩ : ∃ K, w.heap.size = K := ⟨_, rfl⟩
  rw [hK] at hia
  have hkd := h.is.lt
  have d4 := (h.new hoa).is.cell 4 rfl
  have HS := Lib.hid (plainSymbols wa)
  have HR : Hid (∀ wx : World, Calls Try.prog 74 #[] wx (CatPost wx fixB 32)) := Lib.hid plainDistances
  have HN : Hid (∀ A1 c1 A2 c2 w2 w3, Made 3 wa A1 288 c1 (ints fixA) w2 → Made 3 w2 A2 32 c2 (ints fixB) w3 → Calls Try.prog 95 #[.slice A1 288 c1, .slice A2 32 c2] w3 (NewC w3 fixA fixB)) := Lib.hid fun A1 c1 A2 c2 w2 w3 m1 m2 => by
    have o2 := m2.2.1
    exact newCodes A1 A2 288 c1 32 c2 fixA fixB w3 ((m1.see.new o2).more o2.size) m2.see fixA_length (by decide +kernel) lens_fixA lens_fixB
  have FIN : Hid (∀ A1 c1 A2 c2 w2 w3 w4 T1 T2 hi, Made 3 wa A1 288 c1 (ints fixA) w2 → Made 3 w2 A2 32 c2 (ints fixB) w3 → Only (fun _ => False) w3 w4 → Cods w4 w3.heap.size hi T1 T2 fixA fixB →
      (Is w4 K 57 [.pointer none, .pointer none] ∧ w4.cell? ⟨d, 4, none⟩ = some (.pointer none) ∧ w4.cell? ⟨d, 5, none⟩ = some (.pointer none) ∧ w4.frozen? ⟨d, 4, none⟩ = false ∧ w4.frozen? ⟨d, 5, none⟩ = false) ∧
      ∀ wz, wz = (((w4.setCell ⟨d, 4, none⟩ (.pointer (some ⟨T1, 0, none⟩))).setCell ⟨d, 5, none⟩ (.pointer (some ⟨T2, 0, none⟩))).setCell ⟨K, 0, none⟩ (.pointer (some ⟨T1, 0, none⟩))).setCell ⟨K, 1, none⟩ (.pointer (some ⟨T2, 0, none⟩)) →
      FixNew w b d most A n c kv out (.returned (.agg #[.pointer (some ⟨T1, 0, none⟩), .pointer (some ⟨T2, 0, none⟩)])) wz ∧ Is wz K 57 [.pointer (some ⟨T1, 0, none⟩), .pointer (some ⟨T2, 0, none⟩)]) := Lib.hid fun A1 c1 A2 c2 w2 w3 w4 T1 T2 hi m1 m2 o4 hc => by
    have o3 : Only (fun _ => False) wa w3 := m1.2.1.trans m2.2.1
    have o34 := o3.trans o4
    have s4 := h.new (hoa.trans o34)
    have i4 := hia.only o34 fun f => f
    refine ⟨⟨i4, s4.is.cell 4 rfl, s4.is.cell 5 rfl, s4.is.frozen 4, s4.is.frozen 5⟩, ?_⟩
    rintro wz rfl
    have hdK : d ≠ K := by omega
    have ow : Only (fun j => j = d ∨ j = K) w4 ((((w4.setCell ⟨d, 4, none⟩ (.pointer (some ⟨T1, 0, none⟩))).setCell ⟨d, 5, none⟩ (.pointer (some ⟨T2, 0, none⟩))).setCell ⟨K, 0, none⟩ (.pointer (some ⟨T1, 0, none⟩))).setCell ⟨K, 1, none⟩ (.pointer (some ⟨T2, 0, none⟩))) :=
      ((((Only.one w4 d 4 _).trans (Only.one _ d 5 _)).mono fun _ e => .inl e).trans (((Only.one _ K 0 _).trans (Only.one _ K 1 _)).mono fun _ e => .inr e))
    have hka := hia.lt
    have z3 := o3.size
    have za := hoa.size
    refine ⟨⟨T1, T2, hi, rfl, ?_, ⟨?_, ?_, s4.len, s4.ne, s4.nb, s4.nd⟩, ?_⟩, ?_⟩
    · have hk := hc.keep ow (fun j a b e => by rcases e with e | e <;> omega)
      exact ⟨hk.t1.less (by omega), hk.t2.less (by omega), hk.h1, hk.h2, hk.hh⟩
    · exact ((((s4.is.set 4 _).set 5 _).far hdK _).far hdK _)
    · refine s4.row.only ow fun j hj e => ?_
      rcases e with e | e
      · exact s4.nd (e ▸ hj)
      · have := h.row.lies j hj
        omega
    · refine ((hoa.trans o34).mono fun _ f => f.elim).andThen ow fun j e => ?_
      rcases e with e | e
      · exact .inl e
      · exact .inr (by omega)
    · exact (((i4.far (Ne.symm hdK) _).far (Ne.symm hdK) _).set 0 _).set 1 _
  clear h hoa hia
  go_enter Try.func64, Try.ntmps64
  go_wp2_with fail
  refine HS.out.mono ?_
  rintro e w2 ⟨A1, c1, rfl, m1⟩
  have HM1 := Lib.hid m1
  clear m1 HS
  go_wp2_with fail
  refine (HR.out w2).mono ?_
  rintro e w3 ⟨A2, c2, rfl, m2⟩
  have HM2 := Lib.hid m2
  clear m2 HR
  go_wp2_with fail
  refine (HN.out _ _ _ _ w2 w3 HM1.out HM2.out).mono ?_
  rintro e w4 ⟨o4, hif⟩
  rw [if_neg (by rw [kd_fixA, kd_fixB]; simp)] at hif
  obtain ⟨T1, T2, hi, rfl, hc⟩ := hif
  obtain ⟨⟨i4, q4, q5, f4, f5⟩, hz⟩ := FIN.out _ _ _ _ w2 w3 w4 T1 T2 hi HM1.out HM2.out o4 hc
  have HZ := Lib.hid hz
  have g0 := i4.cell 0 rfl
  have g1 := i4.cell 1 rfl
  have z0 := i4.frozen 0
  have z1 := i4.frozen 1
  have hdK : d ≠ K := by omega
  clear o4 hc hz i4 FIN HN HM1 HM2
  go_wp2
  obtain ⟨y1, y2⟩ := HZ.out _ rfl
  refine bodyPost_ret (results_cell_row rfl _ _ K 57 _ (0, 0) _ rfl y2 Try.underlying57 rfl (by kernel_rfl)) rfl ?_
  exact y1
end Go.Proofs.Ytoclbodmibagpaa
