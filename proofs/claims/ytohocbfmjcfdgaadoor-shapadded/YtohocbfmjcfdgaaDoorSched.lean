/- Layer 4: the program's 64 words of a block. -/
import Derived.Test.YtohocbfmjcfdgaaDoorTurns
import Derived.Deep.RegionLaw
import Derived.Deep.RegionHeld3
import Derived.BigRegion
import Derived.Deep.MidRow
import Derived.Laws.Rows
import Derived.Laws.Tables
import Derived.Lib.Hide
namespace Go.Proofs.YtohocbfmjcfdgaaDoor
open Go.RowKit

def nums (l : List Nat) : List Value := l.map fun x => .int .u32 (x : Nat)
def schedCells (b : List UInt8) (k : Nat) : List Value := nums (wds b k) ++ List.replicate (64 - k) (.int .u32 0)
def SchedAt (w : World) (b : List UInt8) (k : Nat) (wx : World) : Prop := Is wx (w.heap.size + 1) 45 (schedCells b k) ∧ Is wx w.heap.size 45 (List.replicate 64 (.int .u32 0)) ∧ Only (fun _ => False) w wx

theorem nums_length (l : List Nat) : (nums l).length = l.length := List.length_map ..
theorem schedCells_length (b : List UInt8) (k : Nat) (h : k ≤ 64) : (schedCells b k).length = 64 := by
  simp [schedCells, nums_length, wds_length]
  omega
theorem schedCells_succ (b : List UInt8) (k : Nat) (h : k < 64) : (schedCells b k).set k (.int .u32 ((if k < 16 then given b k else next (wds b k) k : Nat) : Nat)) = schedCells b (k + 1) := by
  have hl : (nums (wds b k)).length = k := by rw [nums_length, wds_length]
  unfold schedCells
  rw [List.set_append_right _ _ (by omega), hl, Nat.sub_self, show 64 - k = (64 - (k + 1)) + 1 from by omega, List.replicate_succ, List.set_cons_zero]
  simp [nums, wds]
theorem schedCells_at (b : List UInt8) (k i : Nat) (h : i < k) : (schedCells b k)[i]? = some (.int .u32 ((wds b k).getD i 0 : Nat)) := by
  unfold schedCells
  rw [List.getElem?_append_left (by rw [nums_length, wds_length]; exact h)]
  have h2 : i < (wds b k).length := by rw [wds_length]; exact h
  simp [nums, h2]
theorem schedCells_some (b : List UInt8) (k i : Nat) (h : i < 64) (hk : k ≤ 64) : ∃ v, (schedCells b k)[i]? = some v :=
  ⟨_, List.getElem?_eq_getElem (by rw [schedCells_length b k hk]; exact h)⟩
theorem SchedAt.step {w wx : World} {b : List UInt8} {k : Nat} (h : SchedAt w b k wx) (hk : k < 64) (x : Nat) (hx : x = if k < 16 then given b k else next (wds b k) k) :
    SchedAt w b (k + 1) (wx.setCell ⟨w.heap.size + 1, k, none⟩ (.int .u32 (x : Nat))) := by
  subst hx
  refine ⟨?_, h.2.1.far (p := ⟨w.heap.size + 1, k, none⟩) (by simp) _, h.2.2.set (.inr (by simp)) _⟩
  rw [← schedCells_succ b k hk]
  exact h.1.set k _
theorem SchedAt.drewN {w wx : World} {b : List UInt8} {k : Nat} (h : SchedAt w b k wx) (n : Nat) : SchedAt w b k (wx.drewN n) := ⟨h.1.drewN n, h.2.1.drewN n, h.2.2.drewN n⟩

theorem Is.new2 (w : World) (o : Obj) (t : TypeId) (cs : List Value) : Is ((w.alloc o).alloc (.cells cs.toArray t)) (w.heap.size + 1) t cs := by
  have h := Is.new (w.alloc o) t cs
  have e : (w.alloc o).heap.size = w.heap.size + 1 := by simp
  rw [e] at h
  exact h
theorem wrap_small (p : Nat) (h : p < 4611686018427387904) : IntKind.i64.wrap (p : Int) = (p : Int) := by
  simp [IntKind.wrap, IntKind.bits, IntKind.signed]
  omega
theorem byteAt_text (s : ByteArray) (i : Nat) (h : i < s.size) : byteAt s.data.toList i = s[i].toNat := by
  have h2 : i < s.data.toList.length := by simpa using h
  unfold byteAt
  rw [List.getD_eq_getElem?_getD, List.getElem?_eq_getElem h2]
  rfl
theorem next_sum (l : List Nat) (k : Nat) : IntKind.u32.wrap (IntKind.u32.wrap (IntKind.u32.wrap (((l.getD (k - 16) 0 : Nat) : Int) + ((l.getD (k - 7) 0 : Nat) : Int)) + ((movedBy 7 18 3 (l.getD (k - 15) 0) : Nat) : Int)) + ((movedBy 17 19 10 (l.getD (k - 2) 0) : Nat) : Int)) = ((next l k : Nat) : Int) := by
  unfold next
  rw [movedBy0, movedBy1, IntKind.wrap_u32', IntKind.wrap_u32', IntKind.wrap_u32']
  omega
theorem cell_apart (W : World) (g i k : Nat) (v u : Value) (hik : k ≠ i) (h : W.cell? ⟨g, i, none⟩ = some u) : (W.setCell ⟨g, k, none⟩ v).cell? ⟨g, i, none⟩ = some u :=
  (World.cell?_setCell_other W _ _ v (fun e => hik (by injection e))).trans h
theorem Is.row {w : World} {g : Nat} {t : TypeId} {cs : List Value} (h : Is w g t cs) (ds : List Value) : Is (w.setRow g ds.toArray) g t ds := setRow_heap w g _ _ t _ h
theorem Is.farRow {w : World} {g k : Nat} {t : TypeId} {cs : List Value} (h : Is w g t cs) (hk : g ≠ k) (ds : Array Value) : Is (w.setRow k ds) g t cs := (setRow_other w k g ds hk).trans h
theorem Only.row {S : Nat → Prop} {a w : World} (h : Only S a w) {g : Nat} (hg : S g ∨ a.heap.size ≤ g) (ds : Array Value) : Only S a (w.setRow g ds) :=
  ⟨h.os, h.tape, h.output, by simpa using h.size, fun k hk hs => (setRow_other w g k ds fun e => hg.elim (fun x => hs (e ▸ x)) (fun x => by omega)).trans (h.block k hk hs)⟩

set_option maxHeartbeats 2000000 in
set_option maxRecDepth 10000 in
theorem schedule (s : ByteArray) (w : World) (hs : s.size = 64) : Calls Tryd.prog 23 #[.string s] w fun e w' => e = .returned (.agg (nums (wds s.data.toList 64)).toArray) ∧ Only (fun _ => False) w w' := by
  go_enter Tryd.func23, Tryd.ntmps23
  go_wp2_with fail
  go_loopg [9] 16 (fun gk i wx => ∃ k : Nat, i = .int .i64 k ∧ k + gk ≤ 16 ∧ 16 ≤ k + gk ∧ SchedAt w s.data.toList k wx)
  case atStart => exact ⟨0, rfl, by omega, by omega, Is.new2 w _ 45 _, (Is.new w 45 _).alloc _, ((Only.refl _ w).alloc _).alloc _⟩
  case round =>
    obtain ⟨k, rfl, hk, hk2, hI⟩ := hrel
    by_cases hlt : k < 16
    · obtain ⟨v, hv⟩ := schedCells_some s.data.toList k k (by omega) (by omega)
      have c1 := hI.1.cell k hv
      have c2 := hI.1.frozen k
      have HI := Lib.hid hI
      clear hI hv
      obtain ⟨p, hp⟩ : ∃ p : Nat, 4 * k = p := ⟨_, rfl⟩
      obtain ⟨q1, hq1⟩ : ∃ q, p + 1 = q := ⟨_, rfl⟩
      obtain ⟨q2, hq2⟩ : ∃ q, p + 2 = q := ⟨_, rfl⟩
      obtain ⟨q3, hq3⟩ : ∃ q, p + 3 = q := ⟨_, rfl⟩
      have e0 : (k : Int) * 4 = (p : Int) := by omega
      have e1 : (p : Int) + 1 = (q1 : Int) := by omega
      have e2 : (p : Int) + 2 = (q2 : Int) := by omega
      have e3 : (p : Int) + 3 = (q3 : Int) := by omega
      have hs2 : (s.size : Int) = 64 := by omega
      have j0 : p < 64 := by omega
      have j1 : q1 < 64 := by omega
      have j2 : q2 < 64 := by omega
      have j3 : q3 < 64 := by omega
      have i0 : (p : Int) < 64 := by omega
      have i1 : (q1 : Int) < 64 := by omega
      have i2 : (q2 : Int) < 64 := by omega
      have i3 : (q3 : Int) < 64 := by omega
      have hw : given s.data.toList k = s[p].toNat * 16777216 + s[q1].toNat * 65536 + s[q2].toNat * 256 + s[q3].toNat := by
        unfold given
        rw [byteAt_text s _ (by omega), byteAt_text s _ (by omega), byteAt_text s _ (by omega), byteAt_text s _ (by omega)]
        subst hq1 hq2 hq3 hp
        rfl
      obtain ⟨x0, hx0⟩ : ∃ x, s[p] = x := ⟨_, rfl⟩
      obtain ⟨x1, hx1⟩ : ∃ x, s[q1] = x := ⟨_, rfl⟩
      obtain ⟨x2, hx2⟩ : ∃ x, s[q2] = x := ⟨_, rfl⟩
      obtain ⟨x3, hx3⟩ : ∃ x, s[q3] = x := ⟨_, rfl⟩
      rw [hx0, hx1, hx2, hx3] at hw
      have hj := join4 x0.toNat x1.toNat x2.toNat x3.toNat x0.toNat_lt x1.toNat_lt x2.toNat_lt x3.toNat_lt
      rw [← hw] at hj
      have HJ := Lib.hid hj
      clear hw hj
      go_wp2_with fail
      go_region
      rw [HJ.out]
      go_wp2_with fail
      go_roundg (gk - 1)
      case measure => omega
      case rel => exact ⟨k + 1, by go_num, by omega, by omega, (HI.out.step (by omega) _ (by rw [if_pos hlt])).drewN 1⟩
    · obtain rfl : k = 16 := by omega
      clear hk hk2 hlt
      have HI := Lib.hid hI
      clear hI
      go_wp2_with fail
      go_loopg [7] 48 (fun gk i wx => ∃ k : Nat, i = .int .i64 k ∧ k + gk ≤ 64 ∧ 64 ≤ k + gk ∧ 16 ≤ k ∧ SchedAt w s.data.toList k wx)
      case atStart => exact ⟨16, rfl, by omega, by omega, by omega, HI.out⟩
      case round =>
        obtain ⟨k, rfl, hk, hk2, hk3, hI⟩ := hrel
        clear HI
        by_cases hlt : k < 64
        · obtain ⟨v, hv⟩ := schedCells_some s.data.toList k k (by omega) (by omega)
          have c1 := hI.1.cell k hv
          have c2 := hI.1.frozen k
          obtain ⟨p, hp⟩ : ∃ p, k - 16 = p := ⟨_, rfl⟩
          obtain ⟨q1, hq1⟩ : ∃ q, k - 7 = q := ⟨_, rfl⟩
          obtain ⟨q2, hq2⟩ : ∃ q, k - 15 = q := ⟨_, rfl⟩
          obtain ⟨q3, hq3⟩ : ∃ q, k - 2 = q := ⟨_, rfl⟩
          have e0 : (k : Int) - 16 = (p : Int) := by omega
          have e1 : (k : Int) - 7 = (q1 : Int) := by omega
          have e2 : (k : Int) - 15 = (q2 : Int) := by omega
          have e3 : (k : Int) - 2 = (q3 : Int) := by omega
          have f0 := wrap_small p (by omega)
          have f1 := wrap_small q1 (by omega)
          have f2 := wrap_small q2 (by omega)
          have f3 := wrap_small q3 (by omega)
          have i0 : (p : Int) < 64 := by omega
          have i1 : (q1 : Int) < 64 := by omega
          have i2 : (q2 : Int) < 64 := by omega
          have i3 : (q3 : Int) < 64 := by omega
          have d0 := hI.1.cell p (schedCells_at s.data.toList k p (by omega))
          have d1 := hI.1.cell q1 (schedCells_at s.data.toList k q1 (by omega))
          have d2 := hI.1.cell q2 (schedCells_at s.data.toList k q2 (by omega))
          have d3 := hI.1.cell q3 (schedCells_at s.data.toList k q3 (by omega))
          have hsum := next_sum (wds s.data.toList k) k
          rw [hp, hq1, hq2, hq3] at hsum
          have l2 := wds_at_lt s.data.toList k q2
          have l3 := wds_at_lt s.data.toList k q3
          obtain ⟨x0, hx0⟩ : ∃ x, (wds s.data.toList k).getD p 0 = x := ⟨_, rfl⟩
          obtain ⟨x1, hx1⟩ : ∃ x, (wds s.data.toList k).getD q1 0 = x := ⟨_, rfl⟩
          obtain ⟨x2, hx2⟩ : ∃ x, (wds s.data.toList k).getD q2 0 = x := ⟨_, rfl⟩
          obtain ⟨x3, hx3⟩ : ∃ x, (wds s.data.toList k).getD q3 0 = x := ⟨_, rfl⟩
          rw [hx0] at d0 hsum
          rw [hx1] at d1 hsum
          rw [hx2] at d2 hsum l2
          rw [hx3] at d3 hsum l3
          clear hx0 hx1 hx2 hx3
          have hkeep : ∀ W : World, W.heap = wr.heap → W.cell? ⟨w.heap.size + 1, p, none⟩ = some (.int .u32 (x0 : Nat)) ∧ W.cell? ⟨w.heap.size + 1, q1, none⟩ = some (.int .u32 (x1 : Nat)) ∧ W.cell? ⟨w.heap.size + 1, q2, none⟩ = some (.int .u32 (x2 : Nat)) ∧ W.cell? ⟨w.heap.size + 1, q3, none⟩ = some (.int .u32 (x3 : Nat)) :=
            fun W hW => ⟨(World.cell?_of_block (by rw [hW])).trans d0, (World.cell?_of_block (by rw [hW])).trans d1, (World.cell?_of_block (by rw [hW])).trans d2, (World.cell?_of_block (by rw [hW])).trans d3⟩
          have hkeep2 : ∀ (W : World) (u : Value), W.heap = wr.heap → (W.setCell ⟨w.heap.size + 1, k, none⟩ u).cell? ⟨w.heap.size + 1, p, none⟩ = some (.int .u32 (x0 : Nat)) ∧ (W.setCell ⟨w.heap.size + 1, k, none⟩ u).cell? ⟨w.heap.size + 1, q1, none⟩ = some (.int .u32 (x1 : Nat)) ∧ (W.setCell ⟨w.heap.size + 1, k, none⟩ u).cell? ⟨w.heap.size + 1, q2, none⟩ = some (.int .u32 (x2 : Nat)) ∧ (W.setCell ⟨w.heap.size + 1, k, none⟩ u).cell? ⟨w.heap.size + 1, q3, none⟩ = some (.int .u32 (x3 : Nat)) :=
            fun W u hW => ⟨cell_apart _ _ _ _ _ _ (by omega) (hkeep W hW).1, cell_apart _ _ _ _ _ _ (by omega) (hkeep W hW).2.1, cell_apart _ _ _ _ _ _ (by omega) (hkeep W hW).2.2.1, cell_apart _ _ _ _ _ _ (by omega) (hkeep W hW).2.2.2⟩
          have HK := Lib.hid hkeep
          have HK2 := Lib.hid hkeep2
          have HI := Lib.hid hI
          have HS := Lib.hid hsum
          clear hI hv hkeep hkeep2 hsum
          go_wp2_with fail
          go_region_held3 (fun W => W.cell? ⟨w.heap.size + 1, p, none⟩ = some (.int .u32 (x0 : Nat)) ∧ W.cell? ⟨w.heap.size + 1, q1, none⟩ = some (.int .u32 (x1 : Nat)) ∧ W.cell? ⟨w.heap.size + 1, q2, none⟩ = some (.int .u32 (x2 : Nat)) ∧ W.cell? ⟨w.heap.size + 1, q3, none⟩ = some (.int .u32 (x3 : Nat)))
            (first | assumption | exact HK.out _ rfl | exact HK2.out _ _ rfl)
            (first | (go_at_call 25; refine (moveds _ _ _ _ _ (by assumption) (by decide) (by decide) (by decide)).mono ?_; rintro e w' ⟨rfl, m, rfl⟩))
          rw [HS.out]
          go_wp2_with fail
          go_roundg (gk - 1)
          case measure => omega
          case rel => exact ⟨k + 1, by go_num, by omega, by omega, by omega, (HI.out.drewN _).step (by omega) _ (by rw [if_neg (by omega)])⟩
        · obtain rfl : k = 64 := by omega
          obtain ⟨h1, h2, h3⟩ := hI
          have hc : schedCells s.data.toList 64 = nums (wds s.data.toList 64) := by simp [schedCells]
          rw [hc] at h1
          have hn : (nums (wds s.data.toList 64)).toArray.size = 64 := by simp [nums_length, wds_length]
          have h64 : (Tryd.prog.info? 45).map (·.size) = some (nums (wds s.data.toList 64)).toArray.size := by rw [hn]; kernel_rfl
          have hone : (nums (wds s.data.toList 64)).toArray.all (·.oneCell') = true := all_oneCell_toArray (by simp [nums, Value.oneCell'])
          have H1 := Lib.hid h1
          have H2 := Lib.hid h2
          have H3 := Lib.hid h3
          have HN := Lib.hid hn
          have H64 := Lib.hid h64
          have HO := Lib.hid hone
          clear h1 h2 h3 hc hn h64 hone
          go_wp2_with (first
            | ((with_reducible show wpList _ _ _ (Oper.mk _ (Op.load _ _) _ _ _ _ :: _) _ _); refine wpList_load_row rfl 45 (.tmp 3) rfl (w.heap.size + 1) rfl 45 _ (0, 0) _ H1.out Tryd.underlying45 rfl H64.out ?_)
            | ((with_reducible show wpList _ _ _ (Oper.mk _ (Op.store _ _ _) _ _ _ _ :: _) _ _); refine wpList_store_row rfl 45 (.tmp 2) (.tmp 70) rfl w.heap.size _ rfl rfl 45 _ H2.out H64.out (by rw [HN.out]; rfl) HO.out ?_))
          refine bodyPost_ret (results_cell_row rfl _ _ w.heap.size 45 _ (0, 0) _ rfl (H2.out.row _) Tryd.underlying45 rfl H64.out) rfl ?_
          exact ⟨rfl, H3.out.row (.inr (Nat.le_refl _)) _⟩
end Go.Proofs.YtohocbfmjcfdgaaDoor
