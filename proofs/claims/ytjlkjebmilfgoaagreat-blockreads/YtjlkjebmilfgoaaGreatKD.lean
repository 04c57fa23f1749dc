/- Layer 11, the document: blocks of kinds 0 and 1; which tokens may be. -/
import Derived.Test.YtjlkjebmilfgoaaGreatDToks
import Derived.Test.YtjlkjebmilfgoaaGreatKW
import Derived.Laws.MakeOwn
import Derived.Laws.OwnMore
import Derived.Test.YtjlkjebmilfgoaaGreatKPl
import Derived.Test.YtjlkjebmilfgoaaGreatRTree
/- Layers 1 and 11, the document: bits up to a byte's end, bytes laid behind bits. -/
namespace Go.Proofs.YtjlkjebmilfgoaaGreat
open Go.RowKit

theorem BRow.row {e : TypeId} {w : World} {A : Option Addr} {n c : Nat} {l : List UInt8} (h : BRow e w A n c l) : Row e w A n c (bcells l) := by
  have hl : (bcells l).length = n := by rw [bcells_length, h.len]
  rcases h.form with ⟨rfl, rfl, rfl, rfl⟩ | ⟨g, cur, rfl, h1, h2, h3, h4, h5⟩
  · exact Row.nil e w
  · exact ⟨hl, .inr ⟨g, cur, (0, 0), rfl, h1, h2, h3, h4, h5, fun i _ => by simp⟩⟩
/-- A writer whose bits are filled up with zeros. -/
theorem ralign_bits (l : List UInt8) (j : Nat) : l ++ List.replicate j (0 : UInt8) ++ [0] = l ++ List.replicate (j + 1) 0 := by
  rw [List.append_assoc, List.replicate_succ']
set_option maxHeartbeats 2000000 in
theorem ralign (b : Nat) (A : Option Addr) (n c : Nat) (l : List UInt8) (w : World) (h : Wt w b A n c l) (hn : n ≤ 1000000) :
    Calls Tryz.prog 43 #[.pointer (some ⟨b, 0, none⟩)] w fun e w' => e = .returned (.tuple #[]) ∧ WtTo w b A (alignB l) w' := by
  obtain ⟨m, hm⟩ : ∃ m, (n + 7) / 8 * 8 - n = m := ⟨_, rfl⟩
  have hm7 : m ≤ 7 := by omega
  have hfull : (n + m) % 8 = 0 := by omega
  have hpart : ∀ j, j < m → ¬ (n + j) % 8 = 0 := fun j hj => by omega
  have hend : l ++ List.replicate m 0 = alignB l := by unfold alignB; rw [h.len, hm]
  have HEnd := Lib.hid hend
  have H0 : Hid (Wt w b A (n + 0) c (l ++ List.replicate 0 0) ∧ Only (fun j => j = b ∨ Lies A j) w w ∧ ∀ j, Lies A j → Lies A j ∨ w.heap.size ≤ j) := Lib.hid ⟨by simpa using h, Only.refl _ _, fun j hj => .inl hj⟩
  clear h hm hend
  go_enter Tryz.func43, Tryz.ntmps43
  go_wp2_with fail
  go_loopg [] m (fun gk wx => ∃ (j : Nat) (A' : Option Addr) (c' : Nat), j + gk ≤ m ∧ m ≤ j + gk ∧ Hid (Wt wx b A' (n + j) c' (l ++ List.replicate j 0) ∧ Only (fun j => j = b ∨ Lies A j) w wx ∧ ∀ j, Lies A' j → Lies A j ∨ w.heap.size ≤ j))
  case atStart => exact ⟨0, A, c, by omega, by omega, H0⟩
  case round =>
    clear H0
    obtain ⟨j, A', c', hj, hj2, HW⟩ := hrel
    obtain ⟨N, hN⟩ : ∃ N, n + j = N := ⟨_, rfl⟩
    rw [hN] at HW
    have HNN := Lib.hid hN
    have c0 := HW.out.1.is.cell 0 rfl
    by_cases hlt : j < m
    · have hp := hpart j hlt
      rw [hN] at hp
      have d1 : ¬ (N : Int) % 8 = 0 := by omega
      have oa : Only (fun _ => False) wr (wr.alloc (.cells #[.int .u8 0] 5)) := (Only.refl _ wr).alloc _
      have HAW := Lib.hid (HW.out.1.new oa)
      have HSR := Lib.hid (Src.oneInt Tryz.underlying34 wr .u8 0 1 5)
      obtain ⟨wy, hwy⟩ : ∃ wy, wr.alloc (.cells #[.int .u8 0] 5) = wy := ⟨_, rfl⟩
      rw [hwy] at HAW HSR oa
      have HFN : Hid (∀ A9 c9 w9, Row 5 w9 A9 (N + 1) c9 (bcells (l ++ List.replicate j 0) ++ [.int .u8 0]) → Only (Lies A') wy w9 → (A9 = A' ∨ A9 = some ⟨wy.heap.size, 0, none⟩) →
          (Wt (w9.setCell ⟨b, 0, none⟩ (.slice A9 (N + 1) c9)) b A9 (N + 1) c9 (l ++ List.replicate (j + 1) 0) ∧ Only (fun j => j = b ∨ Lies A j) w (w9.setCell ⟨b, 0, none⟩ (.slice A9 (N + 1) c9)) ∧ ∀ j, Lies A9 j → Lies A j ∨ w.heap.size ≤ j) ∧ w9.cell? ⟨b, 0, none⟩ = some (.slice A' N c') ∧ w9.frozen? ⟨b, 0, none⟩ = false) := Lib.hid fun A9 c9 w9 r1 r2 r3 => by
        have r1' : Row 5 w9 A9 (N + 1) c9 (bcells (l ++ List.replicate j 0 ++ [0])) := by rw [← bcells_snoc]; exact r1
        obtain ⟨f1, f2, f3, f4, f5⟩ := HAW.out.append r1' rfl r2 r3
        rw [ralign_bits] at f1
        have o1 := (HW.out.2.1.trans (oa.mono fun _ f => f.elim))
        refine ⟨⟨f1, o1.andThen f2 ?_, fun i hi => (f3 i hi).elim (HW.out.2.2 i) fun x => .inr (Nat.le_trans o1.size x)⟩, f4, f5⟩
        rintro i (e | e)
        · exact .inl (.inl e)
        · exact (HW.out.2.2 i e).imp (fun x => .inr x) id
      have hNb : N ≤ 1000010 := by omega
      clear HW oa hN
      go_wp2_with (at_builtin
                   refine wpList_append_row rfl (.tmp 13) (.tmp 14) 34 34 5 rfl Tryz.underlying34 info5 A' N c' 1 (bcells (l ++ List.replicate j 0)) [.int .u8 0] (.slice (some ⟨wr.heap.size, 0, none⟩) 1 1) (by rfl) (by rfl) HAW.out.row rfl HSR.out (by omega) (by omega) ?_
                   intro A9 c9 w9 hrow9 honly9 hlies9
                   obtain ⟨h9, k1, k2⟩ := HFN.out A9 c9 w9 hrow9 honly9 hlies9
                   have H9 := Lib.hid h9
                   clear hrow9 honly9 hlies9 h9)
      go_roundg (gk - 1)
      case measure => omega
      case rel => exact ⟨j + 1, A9, c9, by omega, by omega, by rw [← Nat.add_assoc, HNN.out]; exact H9⟩
    · obtain rfl : j = m := by omega
      have hp := hfull
      rw [hN] at hp
      have d1 : (N : Int) % 8 = 0 := by omega
      have HF : Hid (WtTo w b A (alignB l) wr) := Lib.hid ⟨A', _, c', by rw [← HEnd.out]; exact HW.out.1, HW.out.2.1, HW.out.2.2⟩
      clear HW hN
      go_wp2
      go_end0
      exact ⟨rfl, HF.out⟩
end Go.Proofs.YtjlkjebmilfgoaaGreat

/- Layer 2: the bytes of a number, by the document. -/
namespace Go.Proofs.YtjlkjebmilfgoaaGreat
open Go.RowKit

set_option maxHeartbeats 1000000 in
theorem rput (v k : Nat) (w : World) (hv : v ≤ 18446744073709551615) (hk : k ≤ 8) : Calls Tryz.prog 27 #[.int .u64 v, .int .i64 k] w fun e w' => e = .returned (.string ⟨(bytesOf v k).toArray⟩) ∧ Only (fun _ => False) w w' := by
  go_enter Tryz.func27, Tryz.ntmps27
  go_wp2_with fail
  go_loopg [0, 5, 6] k (fun gk x o i wx => ∃ (j : Nat) (A : Option Addr) (c : Nat), i = .int .i64 j ∧ x = .int .u64 (v / 256 ^ j : Nat) ∧ o = .slice A j c ∧ j + gk ≤ k ∧ k ≤ j + gk ∧ BMade w A j c (bytesOf v j) wx)
  case atStart => exact ⟨0, none, 0, rfl, by simp, rfl, by omega, by omega, BRow.nil 5 w, Only.refl _ w, by rintro j ⟨ad, e, _⟩; cases e⟩
  case round =>
    obtain ⟨j, A, c, rfl, rfl, rfl, hj, hj2, hM⟩ := hrel
    have HM := Lib.hid hM
    have hq : v / 256 ^ j ≤ 18446744073709551615 := Nat.le_trans (Nat.div_le_self _ _) hv
    obtain ⟨q, hq1⟩ : ∃ q, v / 256 ^ j = q := ⟨_, rfl⟩
    rw [hq1] at hq ⊢
    have HQ := Lib.hid hq1
    clear hM hq1
    by_cases hlt : j < k
    · obtain ⟨cb, hby, hcb⟩ : ∃ cb : UInt8, (q : Int) % 256 = (cb.toNat : Int) ∧ cb = UInt8.ofNat q := ⟨UInt8.ofNat q, by rw [UInt8.toNat_ofNat']; omega, rfl⟩
      have Hcb := Lib.hid hcb
      clear hcb
      go_wp2_with (at_builtin
                   refine wpList_append_brow rfl (.tmp 12) (.tmp 16) 34 34 5 rfl Tryz.underlying34 info5 A j c 1 _ [cb] (.slice (some ⟨wr.heap.size, 0, none⟩) 1 1) rfl rfl (HM.out.1.alloc _) rfl (Src.oneByte Tryz.underlying34 wr cb 1 5) (by omega) ?_
                   intro A2 c2 w2 hrow2 honly2 hlies2
                   have HM2 := Lib.hid (HM.out.append hrow2 honly2 hlies2)
                   clear hrow2 honly2 hlies2)
      go_roundg (gk - 1)
      case measure => omega
      case rel =>
        refine ⟨j + 1, A2, c2, by go_num, ?_, rfl, by omega, by omega, ?_⟩
        · have : v / 256 ^ (j + 1) = q / 256 := by rw [Nat.pow_succ, ← Nat.div_div_eq_div_mul, HQ.out]
          rw [this]
          go_num
        · rw [bytesOf, HQ.out, ← Hcb.out]
          exact HM2.out
    · obtain rfl : k = j := by omega
      have hc := HM.out.1.toText Tryz.underlying34 Tryz.underlying5 Tryz.underlying9
      go_wp2
      go_ret
      exact ⟨rfl, HM.out.2.1⟩

end Go.Proofs.YtjlkjebmilfgoaaGreat

/- Layers 1 and 11, the document: bytes laid behind bits; a block of kind 0, and of kind 1. -/
namespace Go.Proofs.YtjlkjebmilfgoaaGreat
open Go.RowKit

/-- A row's bits laid behind the writer's. -/
theorem wt_app2 {wx w6 : World} {b : Nat} {A : Option Addr} {ad : Addr} {n c x c2 : Nat} {l r : List UInt8} (h : Wt wx b A n c l) (hm : Row 5 w6 (some ad) x c2 (bcells r)) (o6 : Only (fun _ => False) wx w6) (hl : r.length = x) (hn : n ≤ 1000000) (hx : x ≤ 1000000) :
    w6.cell? ⟨b, 0, none⟩ = some (.slice A n c) ∧ ∃ A9 c9 w9, (Builtin.append_ #[34, 34] 34 #[.slice A n c, .slice (some ad) x c2]).run Tryz.prog w6 = .ok (.slice A9 (n + x) c9) w9 ∧ Only (Lies A) w6 w9 ∧ w9.cell? ⟨b, 0, none⟩ = some (.slice A n c) ∧ w9.frozen? ⟨b, 0, none⟩ = false ∧
      Wt (w9.setCell ⟨b, 0, none⟩ (.slice A9 (n + x) c9)) b A9 (n + x) c9 (l ++ r) ∧ Only (fun j => j = b ∨ Lies A j) wx (w9.setCell ⟨b, 0, none⟩ (.slice A9 (n + x) c9)) ∧ ∀ j, Lies A9 j → Lies A j ∨ wx.heap.size ≤ j := by
  have h6 := h.new o6
  have hsrc : Src Tryz.prog 1 34 (.slice (some ad) x c2) x (bcells r) w6 := See.src (c := c2) Tryz.underlying34 hm.see (by rw [bcells_length, hl]) (by simp [bcells, Value.oneCell'])
  obtain ⟨A9, c9, w9, hrun, r1, r2, r3⟩ := run_append_row (P := Tryz.prog) (ty := 34) Tryz.underlying34 info5 h6.row (r := bcells r) (m := x) (by rw [bcells_length, hl]) hsrc (by decide) (by omega)
  have hap : bcells l ++ bcells r = bcells (l ++ r) := by simp [bcells]
  rw [hap] at r1
  obtain ⟨f1, f2, f3, f4, f5⟩ := h6.append r1 hl r2 r3
  exact ⟨h6.is.cell 0 rfl, A9, c9, w9, hrun, r2, f4, f5, f1, (o6.mono fun _ f => f.elim).trans f2, fun j hj => (f3 j hj).imp id fun x => Nat.le_trans o6.size x⟩

set_option maxRecDepth 20000 in
set_option maxHeartbeats 4000000 in
theorem rwrite (b : Nat) (A : Option Addr) (n c : Nat) (l : List UInt8) (s : ByteArray) (w : World) (h : Wt w b A n c l) (hn : n ≤ 100000) (h0 : 0 < s.size) (hs : s.size ≤ 10000) :
    Calls Tryz.prog 26 #[.pointer (some ⟨b, 0, none⟩), .string s] w fun e w' => e = .returned (.tuple #[]) ∧ WtTo w b A (alignB l ++ bitsOf s.data.toList) w' := by
  have HA := Lib.hid (ralign b A n c l w h (by omega))
  have hlen := h.len
  obtain ⟨L, hL⟩ : ∃ L, alignB l = L := ⟨_, rfl⟩
  have hLl : L.length ≤ n + 8 := by rw [← hL, alignB_length, hlen]; omega
  rw [hL] at HA ⊢
  obtain ⟨R, hR⟩ : ∃ R, bitsOf s.data.toList = R := ⟨_, rfl⟩
  have hRl : R.length = 8 * s.size := by rw [← hR, bitsOf_length]; rfl
  have HO : Hid (∀ wx, Calls Tryz.prog 39 #[.string s] wx (fun e w' => ∃ g c2, e = .returned (.slice (some ⟨g, 0, none⟩) (8 * s.size) c2) ∧ Row 5 w' (some ⟨g, 0, none⟩) (8 * s.size) c2 (bcells R) ∧ Only (fun _ => False) wx w')) := Lib.hid fun wx => by
    refine (of s wx (by omega)).mono ?_
    rintro e w' ⟨A2, c2, rfl, hb, ho, _⟩
    rw [hR] at hb
    rcases hb.form with ⟨_, h2, _⟩ | ⟨g, cur, rfl, _⟩
    · omega
    · exact ⟨g, c2, rfl, hb.row, ho⟩
  rw [hR]
  obtain ⟨x, hx⟩ : ∃ x, 8 * s.size = x := ⟨_, rfl⟩
  rw [hx] at HO hRl
  have hx2 : x ≤ 80000 := by omega
  have HRl := Lib.hid hRl
  have HLl := Lib.hid hLl
  clear h hlen hL hR hx hLl hRl
  go_enter Tryz.func26, Tryz.ntmps26
  go_wp2_with fail
  refine HA.out.mono ?_
  rintro e w1 ⟨rfl, A1, n1, c1, k1, k2, k3⟩
  have HK1 := Lib.hid k1
  have HK2 := Lib.hid k2
  have HK3 := Lib.hid k3
  have hn1 : n1 ≤ n + 8 := by rw [← k1.len]; exact HLl.out
  have d0 := k1.is.cell 0 rfl
  have HB := Lib.hid (HO.out w1.drew)
  have HAP : Hid (∀ g c2 w6, Row 5 w6 (some ⟨g, 0, none⟩) x c2 (bcells R) → Only (fun _ => False) w1.drew w6 → _) := Lib.hid fun g c2 w6 hm ho => wt_app2 HK1.out hm ((((Only.refl _ w1).drew)).trans ho) HRl.out (by omega) (by omega)
  have FIN : Hid (∀ A9 c9 wz, Wt wz b A9 (n1 + x) c9 (L ++ R) → Only (fun j => j = b ∨ Lies A1 j) w1 wz → (∀ j, Lies A9 j → Lies A1 j ∨ w1.heap.size ≤ j) → WtTo w b A (L ++ R) wz) := Lib.hid fun A9 c9 wz f1 f2 f3 => WtTo.trans HK2.out HK3.out ⟨A9, _, c9, f1, f2, f3⟩
  clear k1 k2 k3 HA HO
  go_wp2_with fail
  refine Walk.region (fun W => True) (.t 0 (.t 1 (.t 2 (.t 3 (.t 5 (.two 4 6 (.f 6 (.f 7 (.t 8 (.t 9 (.f 10 .nil))))) (.f 4 (.f 7 (.t 8 (.t 9 (.f 10 .nil))))))))))) (by kernel_rfl) (by kernel_rfl) (by kernel_rfl) (fun _ _ d _ _ h => by cases d <;> exact h) ?_
  refine Walk.take (.pointer (some ⟨b, 0, none⟩)) rfl trivial (fun _ hW => by kernel_rfl) ?_
  simp only [Act.put, List.setIfInBounds_toArray, List.set_cons_succ, List.set_cons_zero]
  refine Walk.take (.pointer (some ⟨b, 0, none⟩)) rfl trivial (fun _ hW => by kernel_rfl) ?_
  simp only [Act.put, List.setIfInBounds_toArray, List.set_cons_succ, List.set_cons_zero]
  refine Walk.take (.pointer (some ⟨b, 0, none⟩)) rfl trivial (fun _ hW => by kernel_rfl) ?_
  simp only [Act.put, List.setIfInBounds_toArray, List.set_cons_succ, List.set_cons_zero]
  refine Walk.take (.pointer (some ⟨b, 0, none⟩)) rfl trivial (fun _ hW => by kernel_rfl) ?_
  simp only [Act.put, List.setIfInBounds_toArray, List.set_cons_succ, List.set_cons_zero]
  refine Walk.take (.string s) rfl trivial (fun _ hW => by kernel_rfl) ?_
  simp only [Act.put, List.setIfInBounds_toArray, List.set_cons_succ, List.set_cons_zero]
  constructor
  · refine op_value (w' := w1.drew) (.slice A1 n1 c1) rfl (by go_simp) ⟨trivial, ?_⟩
    simp only [Act.put, List.setIfInBounds_toArray, List.set_cons_succ, List.set_cons_zero]
    refine op_call 39 #[.string s] rfl (by kernel_rfl) (HB.out.mono ?_)
    rintro e w6 ⟨g, c2, rfl, hm6, ho6⟩
    obtain ⟨q2, A9, c9, w9, hrun, q3, q4, q5, hw9, ho9, hl9⟩ := HAP.out g c2 w6 hm6 ho6
    refine ⟨_, rfl, trivial, ?_⟩
    simp only [Act.put, List.setIfInBounds_toArray, List.set_cons_succ, List.set_cons_zero]
    refine op_value (w' := w9) (.slice A9 (n1 + x) c9) rfl (exec_append (.tmp 10) (.tmp 12) rfl rfl rfl hrun) ⟨trivial, ?_⟩
    simp only [Act.put, List.setIfInBounds_toArray, List.set_cons_succ, List.set_cons_zero]
    refine Walk.take (.pointer (some ⟨b, 0, none⟩)) rfl trivial (fun _ hW => by kernel_rfl) ?_
    simp only [Act.put, List.setIfInBounds_toArray, List.set_cons_succ, List.set_cons_zero]
    refine Walk.take (.pointer (some ⟨b, 0, none⟩)) rfl trivial (fun _ hW => by kernel_rfl) ?_
    simp only [Act.put, List.setIfInBounds_toArray, List.set_cons_succ, List.set_cons_zero]
    refine op_skip (w' := w9.setCell ⟨b, 0, none⟩ (.slice A9 (n1 + x) c9)) rfl (by go_simp) ⟨trivial, ?_⟩
    simp only [Act.put]
    show wpList _ _ _ _ _ _
    have HF := Lib.hid (FIN.out A9 c9 _ hw9 ho9 hl9)
    clear hw9 ho9 hl9 hrun q2 q3 q4 q5 hm6 HAP HB FIN
    go_wp2
    go_end0
    exact ⟨rfl, HF.out⟩
  · refine op_call 39 #[.string s] rfl (by kernel_rfl) (HB.out.mono ?_)
    rintro e w6 ⟨g, c2, rfl, hm6, ho6⟩
    obtain ⟨q2, A9, c9, w9, hrun, q3, q4, q5, hw9, ho9, hl9⟩ := HAP.out g c2 w6 hm6 ho6
    refine ⟨_, rfl, trivial, ?_⟩
    simp only [Act.put, List.setIfInBounds_toArray, List.set_cons_succ, List.set_cons_zero]
    refine op_value (w' := w6) (.slice A1 n1 c1) rfl (by go_simp) ⟨trivial, ?_⟩
    simp only [Act.put, List.setIfInBounds_toArray, List.set_cons_succ, List.set_cons_zero]
    refine op_value (w' := w9) (.slice A9 (n1 + x) c9) rfl (exec_append (.tmp 10) (.tmp 12) rfl rfl rfl hrun) ⟨trivial, ?_⟩
    simp only [Act.put, List.setIfInBounds_toArray, List.set_cons_succ, List.set_cons_zero]
    refine Walk.take (.pointer (some ⟨b, 0, none⟩)) rfl trivial (fun _ hW => by kernel_rfl) ?_
    simp only [Act.put, List.setIfInBounds_toArray, List.set_cons_succ, List.set_cons_zero]
    refine Walk.take (.pointer (some ⟨b, 0, none⟩)) rfl trivial (fun _ hW => by kernel_rfl) ?_
    simp only [Act.put, List.setIfInBounds_toArray, List.set_cons_succ, List.set_cons_zero]
    refine op_skip (w' := w9.setCell ⟨b, 0, none⟩ (.slice A9 (n1 + x) c9)) rfl (by go_simp) ⟨trivial, ?_⟩
    simp only [Act.put]
    show wpList _ _ _ _ _ _
    have HF := Lib.hid (FIN.out A9 c9 _ hw9 ho9 hl9)
    clear hw9 ho9 hl9 hrun q2 q3 q4 q5 hm6 HAP HB FIN
    go_wp2
    go_end0
    exact ⟨rfl, HF.out⟩
theorem rbit (last : Bool) (w : World) : Calls Tryz.prog 25 #[.bool last] w fun e w' => e = .returned (.int .u32 (if last then 1 else 0 : Nat)) ∧ w = w' := by
  cases last
  all_goals
    go_enter Tryz.func25, Tryz.ntmps25
    go_wp2
    go_ret
    exact ⟨rfl, rfl⟩
end Go.Proofs.YtjlkjebmilfgoaaGreat

/- Layer 11, the document: a block of kind 0. -/
namespace Go.Proofs.YtjlkjebmilfgoaaGreat
open Go.RowKit

theorem bytes_low (k : Nat) (h : k ≤ 65535) : bytesOf (65535 - k) 2 = bytesOf (18446744073709551615 - k) 2 :=
  le_inj _ _ (by rw [bytesOf_length, bytesOf_length]) (by rw [le_bytesOf, le_bytesOf]; show (65535 - k) % 65536 = (18446744073709551615 - k) % 65536; omega)
theorem wt_made (w : World) (n : Nat) (hn : n ≤ 7) : Wt ((w.alloc (.cells (bcells (List.replicate n 0)).toArray 5)).alloc (.cells #[.slice (some ⟨w.heap.size, 0, none⟩) n n] 60)) (w.heap.size + 1) (some ⟨w.heap.size, 0, none⟩) n n (List.replicate n 0) := by
  have hr := (BRow.made 5 w n (by omega)).row
  have hi := Is.new2 w (.cells (bcells (List.replicate n 0)).toArray 5) 60 [.slice (some ⟨w.heap.size, 0, none⟩) n n]
  refine ⟨hi, ?_, by simp, ?_⟩
  · exact hr.only ((Only.refl (fun _ => False) _).alloc _) fun _ _ f => f
  · rintro ⟨ad, e1, e2⟩
    obtain rfl := Option.some.inj e1
    simp at e2
theorem row_see_drop {e : TypeId} {w : World} {g n c : Nat} {vs : List Value} (h : Row e w (some ⟨g, 0, none⟩) n c vs) (k : Nat) : See w w.heap.size (some ⟨g, k, none⟩) (vs.drop k) := by
  intro i v hv
  rw [List.getElem?_drop] at hv
  obtain ⟨b, off, e1, hb, hc⟩ := h.see (k + i) v hv
  obtain ⟨rfl, rfl⟩ : g = b ∧ 0 = off := by simpa using e1
  exact ⟨g, k, rfl, hb, by rw [Nat.zero_add] at hc; exact hc⟩
theorem head_put (last : Bool) : nb (if last then 1 else 0) 3 = headB 0 last := by cases last <;> decide +kernel
theorem row_some {e : TypeId} {w : World} {A : Option Addr} {n c : Nat} {vs : List Value} (h : Row e w A n c vs) (hn : 0 < n) : ∃ g, A = some ⟨g, 0, none⟩ ∧ n ≤ c := by
  obtain ⟨_, ⟨_, h2, _⟩ | ⟨g, _, _, rfl, _, h4, _⟩⟩ := h
  · omega
  · exact ⟨g, rfl, h4⟩
/-- All bits of the writer. -/
def rstB (n : Nat) (s : ByteArray) (last : Bool) : List UInt8 := storedB (List.replicate n 0) s last
set_option maxRecDepth 20000 in
set_option maxHeartbeats 4000000 in
theorem rstored (n : Nat) (s : ByteArray) (last : Bool) (w : World) (hn : n ≤ 7) (hs : s.size ≤ 1000) :
    Calls Tryz.prog 11 #[.int .i64 n, .string s, .bool last] w (TokPost w ((rstB n s last).drop n)) := by
  obtain ⟨M, hM⟩ : ∃ M, M = (bcells (List.replicate n 0)).toArray := ⟨_, rfl⟩
  have hmk : ∀ W : World, (Instr.makeSlice 34 (.int .i64 n) (.int .i64 n)).run Tryz.prog W = .ok (.slice (some ⟨W.heap.size, 0, none⟩) n n) (W.alloc (.cells M 5)) := fun W => by
    rw [hM]
    exact bmake_row Tryz.underlying34 info5 n (by omega) W
  obtain ⟨wa, hwa⟩ : ∃ wa, w.alloc (.cells M 5) = wa := ⟨_, rfl⟩
  obtain ⟨wb, hwb⟩ : ∃ wb, wa.alloc (.cells #[.slice (some ⟨w.heap.size, 0, none⟩) n n] 60) = wb := ⟨_, rfl⟩
  have hob : Only (fun _ => False) w wb := by rw [← hwb, ← hwa]; exact ((Only.refl _ w).alloc _).alloc _
  obtain ⟨H, hH⟩ : ∃ H, w.heap.size = H := ⟨_, rfl⟩
  have hb1 : wa.heap.size = H + 1 := by rw [← hwa, ← hH]; simp
  have hwt : Wt wb (H + 1) (some ⟨H, 0, none⟩) n n (List.replicate n 0) := by
    have := wt_made w n hn
    rw [← hM, hwa, hwb, hH] at this
    exact this
  obtain ⟨b, hb⟩ : ∃ b, H + 1 = b := ⟨_, rfl⟩
  rw [hb] at hb1 hwt
  have hmk1 := hmk w
  rw [hwa, hH] at hmk1
  rw [hH] at hwb
  obtain ⟨bt, hbt⟩ : ∃ bt, (if last then 1 else 0 : Nat) = bt := ⟨_, rfl⟩
  have hbt1 : bt ≤ 1 := by rw [← hbt]; split <;> omega
  have HBit : Hid (∀ wx, Calls Tryz.prog 25 #[.bool last] wx fun e w' => e = .returned (.int .u32 bt) ∧ wx = w') := Lib.hid fun wx => by
    have := rbit last wx
    rw [hbt] at this
    exact this
  have HPut := Lib.hid (dput b _ n n bt 3 _ wb hwt (by omega) (by omega) (by decide))
  obtain ⟨k, hk⟩ : ∃ k, s.size = k := ⟨_, rfl⟩
  obtain ⟨d, hd⟩ : ∃ d, 65535 - k = d := ⟨_, rfl⟩
  have ed : (65535 : Int) - (k : Int) = (d : Int) := by omega
  have hd2 : d ≤ 65535 := by omega
  obtain ⟨P1, hP1⟩ : ∃ P1 : ByteArray, ⟨(bytesOf k 2).toArray⟩ = P1 := ⟨_, rfl⟩
  obtain ⟨P2, hP2⟩ : ∃ P2 : ByteArray, ⟨(bytesOf d 2).toArray⟩ = P2 := ⟨_, rfl⟩
  have HR1 : Hid (∀ wx, Calls Tryz.prog 27 #[.int .u64 k, .int .i64 2] wx fun e w' => e = .returned (.string P1) ∧ Only (fun _ => False) wx w') := Lib.hid fun wx => by
    rw [← hP1]
    exact rput k 2 wx (by omega) (by decide)
  have HR2 : Hid (∀ wx, Calls Tryz.prog 27 #[.int .u64 d, .int .i64 2] wx fun e w' => e = .returned (.string P2) ∧ Only (fun _ => False) wx w') := Lib.hid fun wx => by
    rw [← hP2]
    exact rput d 2 wx (by omega) (by decide)
  have hS : ∀ S : ByteArray, S = P1 ++ P2 ++ s → S.size = k + 4 ∧ alignB (List.replicate n 0 ++ nb bt 3) ++ bitsOf S.data.toList = rstB n s last := fun S hS => by
    have e1 : S.data.toList = bytesOf k 2 ++ bytesOf d 2 ++ s.data.toList := by rw [hS, ← hP1, ← hP2]; simp
    constructor
    · have : S.data.toList.length = k + 4 := by
        rw [e1, List.length_append, List.length_append, bytesOf_length, bytesOf_length]
        rw [show s.data.toList.length = k by rw [← hk]; rfl]
        omega
      exact this
    · unfold rstB storedB
      rw [e1, bitsOf_append, ← hbt, head_put, hk, ← bytes_low k (by omega), hd]
  obtain ⟨E, hE⟩ : ∃ E, rstB n s last = E := ⟨_, rfl⟩
  have hEl : 8 ≤ E.length ∧ n < E.length := by
    rw [← hE]
    unfold rstB storedB
    rw [List.length_append, alignB_length, List.length_append, List.length_append, bitsOf_length, bitsOf_length, List.length_append, bytesOf_length, bytesOf_length, List.length_replicate, headB_length]
    omega
  rw [hE] at hS ⊢
  have HSS := Lib.hid hS
  have HEl := Lib.hid hEl
  have FIN : Hid (∀ A5 n5 c5 w5 w6, Wt w5 b A5 n5 c5 E → WtTo w5 b A5 E w6 → True) := Lib.hid fun _ _ _ _ _ _ _ => trivial
  have HObs : Hid (Only (fun _ => False) w wb ∧ w.heap.size ≤ H ∧ b = H + 1) := Lib.hid ⟨hob, by omega, hb.symm⟩
  have hps : P1.size = 2 := by rw [← hP1]; show (bytesOf k 2).toArray.size = 2; simp [bytesOf_length]
  have hqs : P2.size = 2 := by rw [← hP2]; show (bytesOf d 2).toArray.size = 2; simp [bytesOf_length]
  clear hM hmk hE hEl hS hP1 hP2 hd hbt hob FIN
  go_enter Tryz.func11, Tryz.ntmps11
  go_wp2_with fail
  refine (HBit.out wb).mono ?_
  rintro e w2 ⟨rfl, rfl⟩
  go_wp2_with fail
  refine HPut.out.mono ?_
  rintro e w3 ⟨rfl, A3, n3, c3, k1, k2, k3⟩
  have HK1 := Lib.hid k1
  have HK2 := Lib.hid k2
  have HK3 := Lib.hid k3
  have hn3 : n3 ≤ 10 := by have := k1.len; rw [List.length_append, List.length_replicate, nb_length] at this; omega
  clear k1 k2 k3 HPut HBit
  go_wp2_with fail
  refine (HR1.out w3).mono ?_
  rintro e w4 ⟨rfl, o4⟩
  have HO4 := Lib.hid o4
  clear o4 HR1
  go_wp2_with fail
  refine (HR2.out w4).mono ?_
  rintro e w5 ⟨rfl, o5⟩
  have HO5 := Lib.hid (HO4.out.trans o5)
  have HK5 := Lib.hid (HK1.out.new (HO4.out.trans o5))
  clear o5 HR2 HO4
  obtain ⟨hS1, hS2⟩ := HSS.out (P1 ++ P2 ++ s) rfl
  have HW := rwrite b A3 n3 c3 _ (P1 ++ P2 ++ s) w5 HK5.out (by omega) (by omega) (by omega)
  rw [hS2] at HW
  have HWW := Lib.hid HW
  clear hS1 hS2 HW HSS
  go_wp2_with fail
  refine HWW.out.mono ?_
  rintro e w6 ⟨rfl, A6, n6, c6, k1, k2, k3⟩
  obtain ⟨g, rfl, hc6⟩ := row_some k1.row (by rw [← k1.len]; have := HEl.out; omega)
  have d0 := k1.is.cell 0 rfl
  have hn6 : n < n6 := by rw [← k1.len]; exact HEl.out.2
  have hc7 : ¬ c6 = n := by omega
  have HF : Hid (TokPost w (E.drop n) (.returned (.slice (some ⟨g, n, none⟩) (n6 - n) (c6 - n))) w6) := Lib.hid (by
    refine ⟨_, _, _, rfl, by rw [List.length_drop, k1.len], ?_, ?_⟩
    · have := row_see_drop k1.row n
      rw [bcells, ← List.map_drop] at this
      exact this
    · have o3 : Only (fun _ => False) w w3 := HObs.out.1.andThen HK2.out fun j e => .inr (by
        have h1 := HObs.out
        rcases e with e | ⟨ad, e1, e2⟩
        · omega
        · obtain rfl := Option.some.inj e1
          have : H = j := e2
          omega)
      refine (o3.trans HO5.out).andThen k2 fun j e => .inr ?_
      have h1 := HObs.out
      rcases e with e | e
      · omega
      · rcases HK3.out j e with ⟨ad, e1, e2⟩ | e3
        · obtain rfl := Option.some.inj e1
          have : H = j := e2
          omega
        · have := h1.1.size
          omega)
  clear k1 k2 k3 HWW HK1 HK2 HK3 HK5 HO5 HObs
  go_wp2
  go_ret
  exact HF.out
end Go.Proofs.YtjlkjebmilfgoaaGreat

/- Layer 11, the document: which tokens may be; a block of kind 1. -/
namespace Go.Proofs.YtjlkjebmilfgoaaGreat
open Go.RowKit

theorem tokIs_tokB (t : Tk) (h : mayB t = true) : TokIs t (tokB fixA fixB t) := by
  obtain ⟨b, n, k⟩ := t
  unfold tokB
  by_cases hn : n = 0
  · subst hn
    rw [may_n0 b 0 k rfl] at h
    obtain rfl : k = 0 := by simpa using h
    exact .lit b
  · obtain ⟨h1, h2, h3, h4⟩ := may_far ⟨b, n, k⟩ h hn
    simp only at h1 h2 h3 h4
    rw [if_neg hn]
    exact .far b n k _ _ _ _ _ _ (lenT_is n h1 h2).1 (distT_is k h3 h4).1
theorem encIs_all : ∀ ts : List Tk, (∀ t ∈ ts, mayB t = true) → EncIs ts (ts.flatMap (tokB fixA fixB))
  | [], _ => .nil
  | t :: r, h => by
    rw [List.flatMap_cons]
    exact .cons t r _ _ (tokIs_tokB t (h t List.mem_cons_self)) (encIs_all r fun x hx => h x (List.mem_cons_of_mem _ hx))
theorem plain_bits (ts : List Tk) (last : Bool) : (nb 3 3 ++ encB fixA fixB ts).set 0 (if last then 1 else 0) = plainB ts last := by
  cases last
  all_goals
    unfold plainB
    rw [List.set_append_left _ _ (by rw [nb_length]; decide)]
    congr 1
set_option maxHeartbeats 2000000 in
theorem rplain (A : Option Addr) (n c : Nat) (ts : List Tk) (last : Bool) (w : World) (h : See w w.heap.size A (tks ts)) (hn : ts.length = n) (h60 : n ≤ 60) (hm : allB ts = true) :
    Calls Tryz.prog 17 #[.slice A n c, .bool last] w (TokPost w (plainB ts last)) := by
  have hmay : ∀ t ∈ ts, mayB t = true := fun t ht => List.all_eq_true.1 hm t ht
  have hX : (ts.flatMap (tokB fixA fixB)).length ≤ 100000 := by
    have := toks_length fixA fixB low_fixA low_fixB ts hmay
    omega
  have HD := Lib.hid (dtokens2 A n c ts _ w h hn h60 (encIs_all ts hmay) hX)
  obtain ⟨E, hE⟩ : ∃ E, nb 3 3 ++ (ts.flatMap (tokB fixA fixB) ++ code fixA 256) = E := ⟨_, rfl⟩
  have hE2 : E.set 0 (if last then 1 else 0) = plainB ts last := by rw [← hE]; exact plain_bits ts last
  have hE3 : 3 ≤ E.length := by rw [← hE, List.length_append, nb_length]; omega
  rw [hE] at HD
  obtain ⟨bt, hbt⟩ : ∃ bt, (if last then 1 else 0 : Nat) = bt := ⟨_, rfl⟩
  have hbu : (if last then 1 else 0 : UInt8) = UInt8.ofNat bt := by rw [← hbt]; cases last <;> rfl
  have hbt1 : bt ≤ 1 := by rw [← hbt]; split <;> omega
  have HBit : Hid (∀ wx, Calls Tryz.prog 25 #[.bool last] wx fun e w' => e = .returned (.int .u32 bt) ∧ wx = w') := Lib.hid fun wx => by
    have := rbit last wx
    rw [hbt] at this
    exact this
  rw [hbu] at hE2
  have HE := Lib.hid hE2
  have HE3 := Lib.hid hE3
  clear h hn hm hmay hX hE hE2 hE3 hbu hbt
  go_enter Tryz.func17, Tryz.ntmps17
  go_wp2_with fail
  refine HD.out.mono ?_
  rintro e w1 ⟨A1, c1, n1, rfl, hl, hr, hlo, ho⟩
  obtain ⟨g, rfl, hc1⟩ := row_some hr (by rw [← hl]; have := HE3.out; omega)
  have hn1 : 0 < n1 := by rw [← hl]; have := HE3.out; omega
  obtain ⟨y, hy⟩ : ∃ y, (bcells E)[0]? = some y := ⟨_, List.getElem?_eq_getElem (by rw [bcells_length]; have := HE3.out; omega)⟩
  obtain ⟨g', e1, cl, fl⟩ := hr.cell hy
  obtain rfl : g = g' := by simpa using e1
  have HF : Hid (TokPost w (plainB ts last) (.returned (.slice (some ⟨g, 0, none⟩) n1 c1)) (w1.setCell ⟨g, 0, none⟩ (.int .u8 bt))) := Lib.hid (by
    have hs := hr.set 0 (.int .u8 bt)
    rw [show (.int .u8 bt : Value) = .int .u8 ((UInt8.ofNat bt).toNat : Nat) by rw [UInt8.toNat_ofNat']; congr 2; omega, bcells_set, HE.out] at hs
    refine ⟨_, _, _, rfl, by rw [← HE.out, List.length_set]; exact hl, ?_, ?_⟩
    · rw [show (.int .u8 bt : Value) = .int .u8 ((UInt8.ofNat bt).toNat : Nat) by rw [UInt8.toNat_ofNat']; congr 2; omega]
      exact hs.see
    · exact ho.andThen (Only.one w1 g 0 _) fun j e => .inr (by rw [e]; exact hlo g ⟨_, rfl, rfl⟩))
  clear hl hr hlo ho hy e1 HD
  go_wp2_with fail
  refine (HBit.out w1).mono ?_
  rintro e w2 ⟨rfl, rfl⟩
  have eb : (bt : Int) % 256 = (bt : Int) := by omega
  go_wp2
  go_ret
  exact HF.out
set_option maxHeartbeats 2000000 in
theorem rmay11 (A : Option Addr) (n c B : Nat) (ts : List Tk) (w : World) (h : See w B A (tks ts)) (hn : ts.length = n) (hb : n ≤ 1000) :
    Calls Tryz.prog 15 #[.slice A n c] w fun e w' => e = .returned (.bool (allB ts)) ∧ Only (fun _ => False) w w' := by
  have HS := Lib.hid h
  have HN := Lib.hid hn
  obtain ⟨R, hR⟩ : ∃ R, allB ts = R := ⟨_, rfl⟩
  have HR := Lib.hid hR
  rw [hR]
  clear h hn hR
  go_enter Tryz.func15, Tryz.ntmps15
  go_wp2_with fail
  go_loopg [3] n (fun gk i wx => ∃ k : Nat, i = .int .i64 k ∧ k + gk ≤ n ∧ n ≤ k + gk ∧ Hid (Only (fun _ => False) w wx) ∧ Hid ((ts.take k).all mayB = true))
  case atStart => exact ⟨0, rfl, by omega, by omega, Lib.hid (Only.refl _ w), Lib.hid rfl⟩
  case round =>
    obtain ⟨k, rfl, hk, hk2, HO, HA⟩ := hrel
    by_cases hlt : k < n
    · obtain ⟨t, ht⟩ : ∃ t, ts[k]? = some t := ⟨ts[k]'(by rw [HN.out]; exact hlt), by simp [HN.out, hlt]⟩
      obtain ⟨b, off, rfl, _, c0, c1, c2⟩ := (HS.out.new HO.out).token k t ht
      have htk : (ts.take (k + 1)).all mayB = ((ts.take k).all mayB && mayB t) := by
        rw [List.take_add_one, ht]
        simp
      have hall : mayB t = false → allB ts = false := fun h => by
        unfold allB
        rw [List.all_eq_false]
        exact ⟨t, List.mem_of_getElem? ht, by simp [h]⟩
      obtain ⟨tb, tn, tkk⟩ := t
      simp only at c0 c1 c2
      obtain ⟨y, hy⟩ : ∃ y, tb.toNat = y := ⟨_, rfl⟩
      have HM : Hid (∀ wx, Calls Tryz.prog 37 #[.agg #[.int .u8 y, .int .i64 tn, .int .i64 tkk]] wx (MayPost ⟨tb, tn, tkk⟩ wx)) := Lib.hid fun wx => by
        have := rmay ⟨tb, tn, tkk⟩ wx
        simp only [tkV, hy] at this
        exact this
      rw [hy] at c0
      cases hm : mayB ⟨tb, tn, tkk⟩ with
      | true =>
        have HA2 : Hid ((ts.take (k + 1)).all mayB = true) := Lib.hid (by rw [htk, HA.out, hm]; rfl)
        have HM2 : Hid (Calls Tryz.prog 37 #[.agg #[.int .u8 y, .int .i64 tn, .int .i64 tkk]] wr fun e w' => e = .returned (.bool true) ∧ Only (fun _ => False) wr w') := Lib.hid ((HM.out wr).mono fun e w' h => by rw [MayPost, hm] at h; exact h)
        clear htk hall hm HM hy
        go_wp2_with fail
        refine HM2.out.mono ?_
        rintro e w2 ⟨rfl, o2⟩
        have HO2 := Lib.hid (HO.out.trans o2)
        clear o2 HM2
        go_wp2_with fail
        go_roundg (gk - 1)
        case measure => omega
        case rel => exact ⟨k + 1, by go_num, by omega, by omega, HO2, HA2⟩
      | false =>
        have hRf : R = false := by rw [← HR.out]; exact hall hm
        have HM2 : Hid (Calls Tryz.prog 37 #[.agg #[.int .u8 y, .int .i64 tn, .int .i64 tkk]] wr fun e w' => e = .returned (.bool false) ∧ Only (fun _ => False) wr w') := Lib.hid ((HM.out wr).mono fun e w' h => by rw [MayPost, hm] at h; exact h)
        clear htk hall hm HM hy HR
        subst hRf
        go_wp2_with fail
        refine HM2.out.mono ?_
        rintro e w2 ⟨rfl, o2⟩
        have HO2 := Lib.hid (HO.out.trans o2)
        clear o2 HM2
        go_wp2
        go_ret
        exact ⟨rfl, HO2.out⟩
    · obtain rfl : k = n := by omega
      have hRt : R = true := by
        rw [← HR.out]
        have := HA.out
        rw [List.take_of_length_le (by rw [HN.out]; exact Nat.le_refl _)] at this
        exact this
      clear HR HA
      subst hRt
      go_wp2
      go_ret
      exact ⟨rfl, HO.out⟩
end Go.Proofs.YtjlkjebmilfgoaaGreat

/- A region that draws its order, walked by a tree of orders: operations that are guarded. Over any program. -/
namespace Go.Proofs.YtjlkjebmilfgoaaGreat
open Go.RowKit

section
variable {P : Program} {ops : Array Oper} {Q : Exit → Act → World → Prop} {S : World → Prop}
theorem Walk.takeG {i : Nat} {l : Ord} {a : Act} {w : World} {d : Option Tmp} {op : Op} {ty : TypeId} {pos : String} {af : Array Edge} {g : Option (Nat × Bool)} (v : Value) (ho : ops[i]? = some ⟨d, op, ty, pos, af, g⟩) (hw : Region.wanted ⟨d, op, ty, pos, af, g⟩ (yielded ops a.tmps) = true) (hS : S w)
    (hy : ∀ W, S W → (execOp a.eval ⟨d, op, ty, pos, af, g⟩).run P W = .ok (.value v) W) (h : Walk P ops Q S l (a.put d v) w) : Walk P ops Q S (.t i l) a w := ⟨hS, _, v, ho, .inl ⟨hw, hy⟩, h⟩
/-- A call, guarded. -/
theorem op_callG {K : Act → World → Prop} {i : Nat} {a : Act} {w : World} {d : Option Tmp} {op : Op} {ty : TypeId} {pos : String} {af : Array Edge} {g : Option (Nat × Bool)} (f : FuncId) (args : Array Value) (ho : ops[i]? = some ⟨d, op, ty, pos, af, g⟩) (hw : Region.wanted ⟨d, op, ty, pos, af, g⟩ (yielded ops a.tmps) = true)
    (hr : (execOp a.eval ⟨d, op, ty, pos, af, g⟩).run P w = .ok (.enter f args) w) (h : Calls P f args w fun e w' => ∃ v, e = .returned v ∧ K (a.put d v) w') : wpOp P ops Q i K a w := by
  refine wpOp_step ho fun K' hK => ?_
  rw [if_pos hw]
  unfold Oper.wp
  rw [hr, Oper.upon_enter]
  refine h.mono fun e w'' hh => ?_
  obtain ⟨v, rfl, h1⟩ := hh
  exact hK _ _ h1
/-- A value, and another world; guarded. -/
theorem op_valueG {K : Act → World → Prop} {i : Nat} {a : Act} {w w' : World} {d : Option Tmp} {op : Op} {ty : TypeId} {pos : String} {af : Array Edge} {g : Option (Nat × Bool)} (v : Value) (ho : ops[i]? = some ⟨d, op, ty, pos, af, g⟩) (hw : Region.wanted ⟨d, op, ty, pos, af, g⟩ (yielded ops a.tmps) = true)
    (hr : (execOp a.eval ⟨d, op, ty, pos, af, g⟩).run P w = .ok (.value v) w') (h : K (a.put d v) w') : wpOp P ops Q i K a w := by
  refine wpOp_step ho fun K' hK => ?_
  rw [if_pos hw]
  unfold Oper.wp
  rw [hr, Oper.upon_value]
  exact hK _ _ h
end
end Go.Proofs.YtjlkjebmilfgoaaGreat
