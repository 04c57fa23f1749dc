/- Layer 13, the document: parts of a text. -/
import Derived.Test.YtmdcnkcbieifpaaDoorRtM
namespace Go.Proofs.YtmdcnkcbieifpaaDoor
open Go.RowKit

theorem Src.oneStr {P : Program} {t e : TypeId} (hk : P.underlying t = some (.slice e)) (w : World) (s : ByteArray) (c : Nat) (t' : TypeId) : Src P 1 t (.slice (some ⟨w.heap.size, 0, none⟩) 1 c) 1 [.string s] (w.alloc (.cells #[.string s] t')) :=
  Src.ofSlice _ hk _ 1 c _ rfl (cell_one_new w _ t') (by simp; rfl)
theorem infoStr : (Tryd.prog.info? 9).map (fun i => (i.zero, i.size, i.bytes)) = some (some (.string ByteArray.empty), 1, 16) := by kernel_rfl
theorem zeroStr : (Value.string ByteArray.empty).cells.size = 1 := by simp [Value.cells]
/-- A row of texts of the call's own, laid since w. -/
def SMade (w : World) (A : Option Addr) (n c : Nat) (ps : List (List UInt8)) (wx : World) : Prop := Rs 9 1 wx A n c (strs ps) ∧ Only (fun _ => False) w wx ∧ ∀ j, Lies A j → w.heap.size ≤ j
theorem SMade.nil (w : World) : SMade w none 0 0 [] w := ⟨Rs.nil _ 1 w, Only.refl _ w, by rintro j ⟨ad, e, _⟩; cases e⟩
theorem SMade.append {w wx wy : World} {A A' : Option Addr} {n c n' c' : Nat} {l l' : List (List UInt8)} {o : Obj} (h : SMade w A n c l wx) (hr : Rs 9 1 wy A' n' c' (strs l')) (ho : Only (Lies A) (wx.alloc o) wy) (ha : A' = A ∨ A' = some ⟨(wx.alloc o).heap.size, 0, none⟩) : SMade w A' n' c' l' wy := by
  refine ⟨hr, (h.2.1.alloc o).andThen ho fun j hj => .inr (h.2.2 j hj), fun j hj => ?_⟩
  rcases ha with e | e
  · exact h.2.2 j (e ▸ hj)
  · obtain ⟨ad, e1, e2⟩ := hj
    rw [e] at e1
    obtain rfl := Option.some.inj e1
    rw [← e2]
    exact (h.2.1.alloc o).size
/-- What is answered: a row of texts. -/
def StrsP (w : World) (ps : List (List UInt8)) (e : Ending) (w' : World) : Prop := ∃ A c, e = .returned (.slice A ps.length c) ∧ SMade w A ps.length c ps w'
theorem byte_is (s : ByteArray) (i : Nat) (h : i < s.size) : s[i]'h = s.data.toList.getD i 0 := by
  have h2 : i < s.data.toList.length := by simpa using h
  rw [List.getD_eq_getElem?_getD, List.getElem?_eq_getElem h2]
  rfl

theorem empty_no {s : ByteArray} (h : ¬ s.data.toList = []) : s.toList.isEmpty = false := by
  rw [ByteArray.toList_eq, List.isEmpty_eq_false_iff]
  exact h
end Go.Proofs.YtmdcnkcbieifpaaDoor
