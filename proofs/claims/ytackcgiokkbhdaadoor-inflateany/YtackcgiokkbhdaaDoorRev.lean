/- Layer 5: sixteen bits turned round (math/bits.Reverse16). -/
import Derived.Test.YtackcgiokkbhdaaDoorLongest
import Derived.Lib.Tables
namespace Go.Proofs.YtackcgiokkbhdaaDoor
open Go.RowKit

theorem rev8_rv (y : Nat) (h : y < 256) : Lib.rev8 (y : Int) = (rv 8 y : Nat) := by
  have h1 : ((List.range 256).all fun y => decide (Lib.rev8 (y : Int) = (rv 8 y : Nat))) = true := by decide +kernel
  have := List.all_eq_true.1 h1 y (by simpa using h)
  simpa using this

theorem bv16 (x : Nat) (h : x < 65536) : (BitVec.ofInt 16 (x : Int)).toNat = x := by simp; omega
theorem or_u16 (x y : Nat) (hx : x < 65536) (hy : y < 65536) : bits .or .u16 (x : Int) (y : Int) = ((x ||| y : Nat) : Int) := by
  have h : x ||| y < 2 ^ 16 := Nat.or_lt_two_pow (by omega) (by omega)
  unfold bits
  show IntKind.u16.wrap (((BitVec.ofInt 16 (x : Int) ||| BitVec.ofInt 16 (y : Int)).toNat : Nat) : Int) = _
  rw [BitVec.toNat_or, bv16 x hx, bv16 y hy]
  exact IntWalk.u16_in ((x ||| y : Nat) : Int) (by omega)
theorem and_u16 (x y : Nat) (hx : x < 65536) (hy : y < 65536) : bits .and .u16 (x : Int) (y : Int) = ((x &&& y : Nat) : Int) := by
  have h : x &&& y < 2 ^ 16 := Nat.and_lt_two_pow _ (by omega)
  unfold bits
  show IntKind.u16.wrap (((BitVec.ofInt 16 (x : Int) &&& BitVec.ofInt 16 (y : Int)).toNat : Nat) : Int) = _
  rw [BitVec.toNat_and, bv16 x hx, bv16 y hy]
  exact IntWalk.u16_in ((x &&& y : Nat) : Int) (by omega)
theorem yields_index {P : Program} {a : Act} {o : Oper} (t : TypeId) (x i : Operand) (ho : o.op = .index t x i) (xv iv v : Value) (W : World) (hx : a.eval x = xv) (hi : a.eval i = iv) (hr : (Instr.index t xv iv).run P W = .ok v W) : (execOp a.eval o).run P W = .ok (.value v) W := by
  unfold execOp
  simp only [ho, hx, hi, Sem.run_bind, hr, Result.andThen_ok, Sem.run_pure]

set_option maxRecDepth 20000 in
set_option maxHeartbeats 1000000 in
theorem rev16 (x : Nat) (hx : x < 65536) (w : World) : Calls Tryd.prog 103 #[.int .u16 x] w fun e w' => e = .returned (.int .u16 (rv 16 x : Nat)) ∧ ∃ k, w' = w.drewN k := by
  have hix : ∀ (y : Nat) (_ : y < 256) (W : World), (Instr.index 9 (.string Lib.rev8tab) (.int .u16 (y : Nat))).run Tryd.prog W = .ok (.int .u8 (rv 8 y : Nat)) W := fun y hy W => by
    rw [← rev8_rv y hy]
    exact Lib.run_index_rev8tab W 9 .u16 (y : Int) Tryd.underlying9 (by omega) (by omega)
  have l1 := rv_lt 8 (x / 256)
  have l2 := rv_lt 8 (x % 256)
  have hand : bits .and .u16 (x : Int) 255 = ((x % 256 : Nat) : Int) := by
    have := and_u16 x 255 hx (by decide)
    rw [show x &&& 255 = x % 256 from and_low x 8] at this
    exact this
  have hor : bits .or .u16 ((rv 8 (x / 256) : Nat) : Int) ((256 * rv 8 (x % 256) : Nat) : Int) = ((rv 16 x : Nat) : Int) := by
    rw [or_u16 _ _ (by omega) (by omega), show (256 : Nat) = 2 ^ 8 from rfl, or_add _ _ 8 (by omega), rv_bytes]
  have h1 := hix (x / 256) (by omega)
  have h2 := hix (x % 256) (by omega)
  obtain ⟨y, hy⟩ : ∃ y, x / 256 = y := ⟨_, rfl⟩
  obtain ⟨z, hz⟩ : ∃ z, x % 256 = z := ⟨_, rfl⟩
  rw [hy] at h1 l1 hor
  rw [hz] at h2 l2 hor hand
  obtain ⟨p, hp⟩ : ∃ p, rv 8 y = p := ⟨_, rfl⟩
  obtain ⟨q, hq⟩ : ∃ q, rv 8 z = q := ⟨_, rfl⟩
  rw [hp] at h1 l1 hor
  rw [hq] at h2 l2 hor
  obtain ⟨r, hr⟩ : ∃ r, rv 16 x = r := ⟨_, rfl⟩
  rw [hr] at hor ⊢
  have e1 : (x : Int) / 256 = (y : Int) := by omega
  have hor2 : bits .or .u16 (p : Int) (256 * (q : Int)) = (r : Int) := by rw [← hor]; simp
  have H1 := Lib.hid h1
  have H2 := Lib.hid h2
  clear hix h1 h2 hp hq hr hz hy hor
  go_enter Tryd.func103, Tryd.ntmps103
  go_wp2_with fail
  generalize hs : Operand.const (Value.string _) = so
  obtain rfl : so = .const (.string Lib.rev8tab) := hs.symm.trans (by kernel_rfl)
  clear hs
  refine Steps.region (fun _ => True) [(true, 0), (true, 1), (true, 2), (true, 3), (true, 4), (true, 5), (true, 6), (true, 7), (true, 8), (true, 9), (true, 10)] (by kernel_rfl) (by kernel_rfl) rfl (by kernel_rfl) (fun _ _ d _ _ h => by cases d <;> exact h) ?_
  refine Steps.take (.int .u16 x) rfl trivial (fun _ _ => by kernel_rfl) ?_
  simp only [Act.put, List.setIfInBounds_toArray, List.set_cons_succ, List.set_cons_zero]
  refine Steps.take (.int .u16 y) rfl trivial (fun W _ => by go_simp) ?_
  simp only [Act.put, List.setIfInBounds_toArray, List.set_cons_succ, List.set_cons_zero]
  refine Steps.take (.int .u8 p) rfl trivial (fun W _ => yields_index 9 (.const (.string Lib.rev8tab)) (.tmp 4) (by kernel_rfl) (.string Lib.rev8tab) (.int .u16 y) _ W (by kernel_rfl) (by kernel_rfl) (H1.out W)) ?_
  simp only [Act.put, List.setIfInBounds_toArray, List.set_cons_succ, List.set_cons_zero]
  refine Steps.take (.int .u16 p) rfl trivial (fun W _ => by go_simp; exact IntWalk.u16_in _ (by omega)) ?_
  simp only [Act.put, List.setIfInBounds_toArray, List.set_cons_succ, List.set_cons_zero]
  refine Steps.take (.int .u16 x) rfl trivial (fun _ _ => by kernel_rfl) ?_
  simp only [Act.put, List.setIfInBounds_toArray, List.set_cons_succ, List.set_cons_zero]
  refine Steps.take (.int .u16 z) rfl trivial (fun W _ => by go_simp) ?_
  simp only [Act.put, List.setIfInBounds_toArray, List.set_cons_succ, List.set_cons_zero]
  refine Steps.take (.int .u8 q) rfl trivial (fun W _ => yields_index 9 (.const (.string Lib.rev8tab)) (.tmp 8) (by kernel_rfl) (.string Lib.rev8tab) (.int .u16 z) _ W (by kernel_rfl) (by kernel_rfl) (H2.out W)) ?_
  simp only [Act.put, List.setIfInBounds_toArray, List.set_cons_succ, List.set_cons_zero]
  refine Steps.take (.int .u16 q) rfl trivial (fun W _ => by go_simp; exact IntWalk.u16_in _ (by omega)) ?_
  simp only [Act.put, List.setIfInBounds_toArray, List.set_cons_succ, List.set_cons_zero]
  refine Steps.take (.int .u16 (256 * q : Nat)) rfl trivial (fun W _ => by go_simp; rw [IntWalk.u16_in _ (by omega)]; omega) ?_
  simp only [Act.put, List.setIfInBounds_toArray, List.set_cons_succ, List.set_cons_zero]
  refine Steps.take (.int .u16 r) rfl trivial (fun W _ => by go_simp) ?_
  simp only [Act.put, List.setIfInBounds_toArray, List.set_cons_succ, List.set_cons_zero]
  refine Steps.take (.int .u16 r) rfl trivial (fun _ _ => by kernel_rfl) ?_
  simp only [Act.put, List.setIfInBounds_toArray, List.set_cons_succ, List.set_cons_zero]
  show wpList _ _ _ _ _ _
  go_wp2
  go_ret
  exact ⟨rfl, 1, rfl⟩
end Go.Proofs.YtackcgiokkbhdaaDoor
