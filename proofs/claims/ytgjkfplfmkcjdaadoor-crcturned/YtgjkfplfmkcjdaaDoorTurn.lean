/- Layer 3: bytes laid over others; a text as bytes and back. -/
import Derived.Test.YtgjkfplfmkcjdaaDoorAwake
import Derived.Laws.IdiomCopy
import Derived.Laws.IdiomStrings
import Derived.Lib.SlBuf
import Derived.Deep.DeepCutAuto
namespace Go.Proofs.YtgjkfplfmkcjdaaDoor
open Go.RowKit

/-- Block g reads as the bytes l. -/
def Reads (w : World) (g : Nat) (l : List UInt8) : Prop := ∀ i b, l[i]? = some b → w.cell? ⟨g, i, none⟩ = some (.int .u8 b.toNat) ∧ w.frozen? ⟨g, i, none⟩ = false
def bcells (l : List UInt8) : List Value := l.map fun b => .int .u8 b.toNat
/-- Bytes laid over others from a place on. -/
def over (l : List UInt8) (p : Nat) (cs : List UInt8) : List UInt8 := l.take p ++ cs ++ l.drop (p + cs.length)

theorem Reads.only {S : Nat → Prop} {w w' : World} {g : Nat} {l : List UInt8} (h : Reads w g l) (k : Only S w w') (hg : ¬ S g) (hlt : g < w.heap.size) : Reads w' g l := fun i b hb => by
  obtain ⟨h1, h2⟩ := h i b hb
  have e := k.block g hlt hg
  refine ⟨(World.cell?_of_block e).trans h1, ?_⟩
  rw [← h2]
  unfold World.frozen?
  rw [e]

theorem over_length (l : List UInt8) (p : Nat) (cs : List UInt8) (h : p + cs.length ≤ l.length) : (over l p cs).length = l.length := by
  simp [over]
  omega
theorem over_at (l : List UInt8) (p : Nat) (cs : List UInt8) (h : p + cs.length ≤ l.length) (i : Nat) : (over l p cs)[i]? = if p ≤ i ∧ i < p + cs.length then cs[i - p]? else l[i]? := by
  unfold over
  by_cases h1 : i < p
  · rw [List.append_assoc, List.getElem?_append_left (by simp; omega), List.getElem?_take, if_pos h1, if_neg (by omega)]
  · by_cases h2 : i < p + cs.length
    · rw [List.getElem?_append_left (by simp; omega), List.getElem?_append_right (by simp; omega), if_pos ⟨by omega, h2⟩]
      congr 1
      simp
      omega
    · rw [List.getElem?_append_right (by simp; omega), if_neg (by omega), List.getElem?_drop]
      congr 1
      simp
      omega

theorem Reads.over {w : World} {g : Nat} {l : List UInt8} (h : Reads w g l) (p : Nat) (cs : List UInt8) (hl : p + cs.length ≤ l.length) : Reads (w.setCells g p (bcells cs)) g (over l p cs) := by
  intro i b hb
  rw [over_at l p cs hl] at hb
  have hin : ∀ j, j < (bcells cs).length → (w.cell? ⟨g, p + j, none⟩).isSome = true := by
    intro j hj
    simp only [bcells, List.length_map] at hj
    rw [(h (p + j) _ (List.getElem?_eq_getElem (by omega))).1]
    rfl
  split at hb
  · rename_i hi
    obtain ⟨j, rfl⟩ : ∃ j, i = p + j := ⟨i - p, by omega⟩
    have hj : j < cs.length := by omega
    rw [show p + j - p = j from by omega, List.getElem?_eq_getElem hj] at hb
    obtain rfl := Option.some.inj hb
    refine ⟨?_, ?_⟩
    · rw [World.cell?_setCells_in g (bcells cs) p w hin j (by simpa [bcells] using hj)]
      simp [bcells]
    · rw [World.frozen?_setCells]
      exact (h (p + j) _ (List.getElem?_eq_getElem (by omega))).2
  · rename_i hi
    refine ⟨?_, ?_⟩
    · rw [World.cell?_setCells_out g (bcells cs) p w ⟨g, i, none⟩ (fun _ _ => by simp [bcells]; omega)]
      exact (h i b hb).1
    · rw [World.frozen?_setCells]
      exact (h i b hb).2

/-- []byte(s). -/
theorem run_bytes {P : Program} {src dst e : TypeId} (hs : P.underlying src = some .string) (hd : P.underlying dst = some (.slice e)) (he : P.underlying e = some (.int .u8)) (s : ByteArray) (w : World) :
    ∃ c w', (convert src dst (.string s)).run P w = .ok (.slice (some ⟨w.heap.size, 0, none⟩) s.size c) w' ∧ s.size ≤ c ∧ Reads w' w.heap.size s.data.toList ∧ Only (fun _ => False) w w' ∧ w.heap.size < w'.heap.size := by
  have hrun := run_bytes_of_string w src dst e s hs hd he
  have hcap := grownCap_ge w s.size 0 e
  obtain ⟨c, hc⟩ : ∃ c, grownCap w s.size 0 e = c := ⟨_, rfl⟩
  rw [hc] at hrun hcap
  have hrow : ∀ i b, s.data.toList[i]? = some b → i < (bytesRow s c).size ∧ (bytesRow s c)[i]? = some (.int .u8 b.toNat) := by
    intro i b hb
    have hi : i < s.data.toList.length := by
      rcases Nat.lt_or_ge i s.data.toList.length with h | h
      · exact h
      · rw [List.getElem?_eq_none h] at hb; cases hb
    rw [List.getElem?_eq_getElem hi] at hb
    obtain rfl := Option.some.inj hb
    have hi2 : i < s.size := by simpa using hi
    refine ⟨by simp [bytesRow]; omega, ?_⟩
    simp [bytesRow, Array.getElem?_append, hi2]
  obtain ⟨R, hR⟩ : ∃ R, bytesRow s c = R := ⟨_, rfl⟩
  rw [hR] at hrun hrow
  obtain ⟨o, ho⟩ : ∃ o, Obj.cells R e (R.size, R.size + 1) = o := ⟨_, rfl⟩
  rw [ho] at hrun
  have hn : (w.drew.alloc o).heap[w.heap.size]? = some o := heap_alloc_new w.drew o
  refine ⟨c, _, hrun, hcap, fun i b hb => ?_, ((Only.refl _ w).drew).alloc _, by simp⟩
  obtain ⟨h1, h2⟩ := hrow i b hb
  subst ho
  refine ⟨by simp only [World.cell?, hn]; exact h2, ?_⟩
  simp only [World.frozen?, hn]
  simp
  omega

/-- string(b). -/
theorem run_text {P : Program} {src dst e : TypeId} (hs : P.underlying src = some (.slice e)) (he : P.underlying e = some (.int .u8)) (hd : P.underlying dst = some .string) {w : World} {g : Nat} {l : List UInt8} (h : Reads w g l) (n c : Nat) (hn : l.length = n) :
    (convert src dst (.slice (some ⟨g, 0, none⟩) n c)).run P w = .ok (.string ⟨l.toArray⟩) w := by
  rw [run_convert_bytes_arg w src e hs he g 0 n c (l.map fun b => (b.toNat : Int)) (by simpa using hn) ?_ dst hd]
  · have e : strOfNums (l.map fun b => (b.toNat : Int)) = ⟨l.toArray⟩ := by simp [strOfNums, Function.comp_def]
    rw [e]
  · intro i hi
    have hi2 : i < l.length := by omega
    rw [Nat.zero_add, (h i _ (List.getElem?_eq_getElem hi2)).1]
    simp [hi2]

/-- Of bytes laid over others: the sum tells whether they are other ones. -/
theorem over_told (l : List UInt8) (p : Nat) (cs : List UInt8) (h : p + cs.length ≤ l.length) (h4 : cs.length ≤ 4) : crc (over l p cs) = crc l ↔ over l p cs = l := by
  have e : l = l.take p ++ (l.drop p).take cs.length ++ l.drop (p + cs.length) := by
    rw [← List.drop_drop, List.append_assoc, List.take_append_drop, List.take_append_drop]
  have ht := crc_turned (l.take p) cs ((l.drop p).take cs.length) (l.drop (p + cs.length)) (by simp; omega) h4
  rw [← e] at ht
  exact ht
end Go.Proofs.YtgjkfplfmkcjdaaDoor
