/- Layer 1, the document: a writer of bits, and what is put. -/
import Derived.Test.YtackcgiokkbhdaaDoorDSmall
import Derived.Test.YtackcgiokkbhdaaDoorSeveral
namespace Go.Proofs.YtackcgiokkbhdaaDoor
open Go.RowKit

structure Wt (w : World) (b : Nat) (A : Option Addr) (n c : Nat) (l : List UInt8) : Prop where
  is : Is w b 69 [.slice A n c]
  row : Row 5 w A n c (bcells l)
  len : l.length = n
  nb : ¬ Lies A b
/-- What it comes to. -/
def WtTo (w : World) (b : Nat) (A : Option Addr) (l : List UInt8) (wx : World) : Prop := ∃ A' n c, Wt wx b A' n c l ∧ Only (fun j => j = b ∨ Lies A j) w wx ∧ ∀ j, Lies A' j → Lies A j ∨ w.heap.size ≤ j
theorem Wt.new {w w' : World} {b : Nat} {A : Option Addr} {n c : Nat} {l : List UInt8} (h : Wt w b A n c l) (k : Only (fun _ => False) w w') : Wt w' b A n c l := ⟨h.is.only k (fun f => f), h.row.only k (fun _ _ f => f), h.len, h.nb⟩
/-- Bits laid behind its bits, and the row laid into the writer. -/
theorem Wt.append {wx w2 : World} {b : Nat} {A A2 : Option Addr} {n c c2 m : Nat} {l r : List UInt8} (h : Wt wx b A n c l) (hr : Row 5 w2 A2 (n + m) c2 (bcells (l ++ r))) (hl : r.length = m) (ho : Only (Lies A) wx w2) (ha : A2 = A ∨ A2 = some ⟨wx.heap.size, 0, none⟩) :
    Wt (w2.setCell ⟨b, 0, none⟩ (.slice A2 (n + m) c2)) b A2 (n + m) c2 (l ++ r) ∧ Only (fun j => j = b ∨ Lies A j) wx (w2.setCell ⟨b, 0, none⟩ (.slice A2 (n + m) c2)) ∧ (∀ j, Lies A2 j → Lies A j ∨ wx.heap.size ≤ j) ∧ w2.cell? ⟨b, 0, none⟩ = some (.slice A n c) ∧ w2.frozen? ⟨b, 0, none⟩ = false := by
  have hlies : ∀ j, Lies A2 j → Lies A j ∨ wx.heap.size ≤ j := by
    intro j hj
    rcases ha with e | e
    · exact .inl (e ▸ hj)
    · obtain ⟨ad, e1, e2⟩ := hj
      rw [e] at e1
      obtain rfl := Option.some.inj e1
      exact .inr (Nat.le_of_eq e2)
  have hbl := h.is.lt
  have hi2 := h.is.only ho h.nb
  have hnb : ¬ Lies A2 b := fun hj => (hlies b hj).elim h.nb (fun x => by omega)
  have ow := Only.one w2 b 0 (.slice A2 (n + m) c2)
  exact ⟨⟨hi2.set 0 _, hr.only ow (fun j hj e => hnb (e ▸ hj)), by rw [List.length_append, h.len, hl], hnb⟩, (ho.mono fun j hj => .inr hj).trans (ow.mono fun j hj => .inl hj), hlies, hi2.cell 0 rfl, hi2.frozen 0⟩
theorem WtTo.trans {w wx wy : World} {b : Nat} {A A1 : Option Addr} {l : List UInt8} (ho : Only (fun j => j = b ∨ Lies A j) w wx) (hl : ∀ j, Lies A1 j → Lies A j ∨ w.heap.size ≤ j) (h : WtTo wx b A1 l wy) : WtTo w b A l wy := by
  obtain ⟨A', n, c, g1, g2, g3⟩ := h
  refine ⟨A', n, c, g1, ho.andThen g2 ?_, fun j hj => (g3 j hj).elim (hl j) fun x => .inr (Nat.le_trans ho.size x)⟩
  rintro j (e | e)
  · exact .inl (.inl e)
  · exact (hl j e).imp (fun x => .inr x) id

set_option maxRecDepth 20000 in
set_option maxHeartbeats 2000000 in
theorem dput (b : Nat) (A : Option Addr) (n c v m : Nat) (l : List UInt8) (w : World) (h : Wt w b A n c l) (hn : n ≤ 1000000) (hv : v < 4294967296) (hm : m ≤ 20) :
    Calls Tryd.prog 23 #[.pointer (some ⟨b, 0, none⟩), .int .u32 v, .int .i64 m] w fun e w' => e = .returned (.tuple #[]) ∧ WtTo w b A (l ++ nb v m) w' := by
  have H0 : Hid (Wt w b A (n + 0) c (l ++ nb v 0) ∧ Only (fun j => j = b ∨ Lies A j) w w ∧ ∀ j, Lies A j → Lies A j ∨ w.heap.size ≤ j) := Lib.hid ⟨by simpa [nb] using h, Only.refl _ _, fun j hj => .inl hj⟩
  clear h
  go_enter Tryd.func23, Tryd.ntmps23
  go_wp2_with fail
  go_loopg [1, 6] m (fun gk x i wx => ∃ (j : Nat) (A' : Option Addr) (c' : Nat), i = .int .i64 j ∧ x = .int .u32 (v / 2 ^ j : Nat) ∧ j + gk ≤ m ∧ m ≤ j + gk ∧ Hid (Wt wx b A' (n + j) c' (l ++ nb v j) ∧ Only (fun j => j = b ∨ Lies A j) w wx ∧ ∀ j, Lies A' j → Lies A j ∨ w.heap.size ≤ j))
  case atStart => exact ⟨0, A, c, rfl, by simp, by omega, by omega, H0⟩
  case round =>
    clear H0
    obtain ⟨j, A', c', rfl, rfl, hj, hj2, HW⟩ := hrel
    have hq : v / 2 ^ j < 4294967296 := Nat.lt_of_le_of_lt (Nat.div_le_self _ _) hv
    obtain ⟨q, hq1⟩ : ∃ q, v / 2 ^ j = q := ⟨_, rfl⟩
    rw [hq1] at hq ⊢
    have HQ := Lib.hid hq1
    obtain ⟨N, hN⟩ : ∃ N, n + j = N := ⟨_, rfl⟩
    rw [hN] at HW
    have hNb : N ≤ 1000100 := by omega
    have HNN := Lib.hid hN
    clear hq1 hN
    by_cases hlt : j < m
    · have d1 : decide ((j : Int) < (m : Int)) = true := by simp; omega
      have d2 : decide ((j : Int) < 32) = true := by simp; omega
      have d3 : (j : Int) < (m : Int) := by omega
      have d4 : (j : Int) < 32 := by omega
      obtain ⟨y, hy⟩ : ∃ y, q % 2 = y := ⟨_, rfl⟩
      have hy2 : (q : Int) % 2 = (y : Int) := by omega
      have hy3 : y < 2 := by omega
      have c0 := HW.out.1.is.cell 0 rfl
      have oa : Only (fun _ => False) wr (wr.alloc (.cells #[.int .u8 (y : Nat)] 5)) := (Only.refl _ wr).alloc _
      have HAW := Lib.hid (HW.out.1.new oa)
      have HSR := Lib.hid (Src.oneInt Tryd.underlying40 wr .u8 y 1 5)
      obtain ⟨wy, hwy⟩ : ∃ wy, wr.alloc (.cells #[.int .u8 (y : Nat)] 5) = wy := ⟨_, rfl⟩
      rw [hwy] at HAW HSR oa
      have HFN : Hid (∀ A9 c9 w9, Row 5 w9 A9 (N + 1) c9 (bcells (l ++ nb v j) ++ [.int .u8 (y : Nat)]) → Only (Lies A') wy w9 → (A9 = A' ∨ A9 = some ⟨wy.heap.size, 0, none⟩) →
          (Wt (w9.setCell ⟨b, 0, none⟩ (.slice A9 (N + 1) c9)) b A9 (N + 1) c9 (l ++ nb v (j + 1)) ∧ Only (fun j => j = b ∨ Lies A j) w (w9.setCell ⟨b, 0, none⟩ (.slice A9 (N + 1) c9)) ∧ ∀ j, Lies A9 j → Lies A j ∨ w.heap.size ≤ j) ∧ w9.cell? ⟨b, 0, none⟩ = some (.slice A' N c') ∧ w9.frozen? ⟨b, 0, none⟩ = false) := Lib.hid fun A9 c9 w9 r1 r2 r3 => by
        have eb : (UInt8.ofNat y).toNat = y := by rw [UInt8.toNat_ofNat']; omega
        rw [← eb, bcells_snoc] at r1
        obtain ⟨f1, f2, f3, f4, f5⟩ := HAW.out.append r1 rfl r2 r3
        have en : l ++ nb v (j + 1) = l ++ nb v j ++ [UInt8.ofNat y] := by rw [nb_succ, ← List.append_assoc, HQ.out, hy]
        have o1 := (HW.out.2.1.trans (oa.mono fun _ f => f.elim))
        refine ⟨⟨by rw [en]; exact f1, o1.andThen f2 ?_, fun i hi => (f3 i hi).elim (HW.out.2.2 i) fun x => .inr (Nat.le_trans o1.size x)⟩, f4, f5⟩
        rintro i (e | e)
        · exact .inl (.inl e)
        · exact (HW.out.2.2 i e).imp (fun x => .inr x) id
      clear HW oa
      go_wp2_with (at_builtin
                   refine wpList_append_row rfl (.tmp 20) (.tmp 24) 40 40 5 rfl Tryd.underlying40 info5 A' N c' 1 (bcells (l ++ nb v j)) [.int .u8 (y : Nat)] (.slice (some ⟨wr.heap.size, 0, none⟩) 1 1) (by rfl) (by rfl) HAW.out.row rfl HSR.out (by omega) (by omega) ?_
                   intro A9 c9 w9 hrow9 honly9 hlies9
                   obtain ⟨h9, k1, k2⟩ := HFN.out A9 c9 w9 hrow9 honly9 hlies9
                   have H9 := Lib.hid h9
                   clear hrow9 honly9 hlies9 h9)
      go_roundg (gk - 1)
      case measure => omega
      case rel =>
        refine ⟨j + 1, A9, c9, by go_num, ?_, by omega, by omega, by rw [← Nat.add_assoc, HNN.out]; exact H9⟩
        have : v / 2 ^ (j + 1) = q / 2 := by rw [Nat.pow_succ, ← Nat.div_div_eq_div_mul, HQ.out]
        rw [this]
        go_num
    · obtain rfl : j = m := by omega
      have d1 : decide ((j : Int) < (j : Int)) = false := by simp
      have HF : Hid (WtTo w b A (l ++ nb v j) wr) := Lib.hid ⟨A', _, c', HW.out.1, HW.out.2.1, HW.out.2.2⟩
      clear HW
      go_wp2
      go_end0
      exact ⟨rfl, HF.out⟩
end Go.Proofs.YtackcgiokkbhdaaDoor
