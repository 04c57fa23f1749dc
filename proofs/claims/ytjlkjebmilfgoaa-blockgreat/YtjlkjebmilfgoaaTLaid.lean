/- Layer 7: tokens in memory, and what they say as far as they are gone over. -/
import Derived.Test.YtjlkjebmilfgoaaM9
namespace Go.Proofs.Ytjlkjebmilfgoaa
open Go.RowKit

def LaidPost (w0 : World) (l : List UInt8) (n : Nat) (e : Ending) (w' : World) : Prop := ∃ A c, e = .returned (.slice A n c) ∧ Made 5 w0 A n c (bcells l) w'
theorem Made.alloc {e : TypeId} {w0 wx : World} {A : Option Addr} {n c : Nat} {vs : List Value} (h : Made e w0 A n c vs wx) (o : Obj) : Made e w0 A n c vs (wx.alloc o) := ⟨h.1.alloc o, h.2.1.alloc o, h.2.2⟩
theorem byte_lt (b : UInt8) : b.toNat < 256 := b.toNat_lt
/-- Where copying stands. -/
def LaidAt (w0 : World) (g : Nat) (cs : List Value) (A : Option Addr) (n c : Nat) (l : List UInt8) (wx : World) : Prop := l.length = n ∧ Made 5 w0 A n c (bcells l) wx ∧ Is wx g 63 cs ∧ ¬ Lies A g
theorem LaidAt.more {w0 wx wy : World} {g : Nat} {cs : List Value} {A A' : Option Addr} {n c c' : Nat} {l : List UInt8} {x : UInt8} {o : Obj} (h : LaidAt w0 g cs A n c l wx) (hr : Row 5 wy A' (n + 1) c' (bcells l ++ [.int .u8 (x.toNat : Nat)])) (ho : Only (Lies A) (wx.alloc o) wy)
    (ha : A' = A ∨ A' = some ⟨(wx.alloc o).heap.size, 0, none⟩) : LaidAt w0 g cs A' (n + 1) c' (l ++ [x]) wy := by
  rw [bcells_snoc] at hr
  refine ⟨by simp [h.1], h.2.1.append hr ho ha, (h.2.2.1.alloc o).only ho h.2.2.2, ?_⟩
  rcases ha with e | e
  · rw [e]; exact h.2.2.2
  · rintro ⟨ad, e1, e2⟩
    rw [e] at e1
    obtain rfl := Option.some.inj e1
    have h1 := h.2.2.1.lt
    have h2 : (wx.alloc o).heap.size = g := e2
    simp at h2
    omega


/-- string(..) of a row of bytes. -/
theorem Row.toText {P : Program} {src dst e : TypeId} {w : World} {A : Option Addr} {n c : Nat} {l : List UInt8} (hs : P.underlying src = some (.slice e)) (he : P.underlying e = some (.int .u8)) (hd : P.underlying dst = some .string) (h : Row e w A n c (bcells l)) :
    (convert src dst (.slice A n c)).run P w = .ok (.string ⟨l.toArray⟩) w := by
  have hl : l.length = n := by rw [← h.1, bcells_length]
  have hc := fun (i : Nat) (v : Value) (hi : (bcells l)[i]? = some v) => h.cell hi
  obtain ⟨_, ⟨rfl, rfl, rfl, h0⟩ | ⟨g, _, _, rfl, _⟩⟩ := h
  · obtain rfl : l = [] := List.eq_nil_of_length_eq_zero hl
    rw [run_convert_bytes_nil w src e hs he 0 0 dst hd]
    rfl
  · rw [run_convert_bytes_arg w src e hs he g 0 n c (l.map fun b => (b.toNat : Int)) (by simpa using hl) ?_ dst hd]
    · have e : strOfNums (l.map fun b => (b.toNat : Int)) = ⟨l.toArray⟩ := by simp [strOfNums, Function.comp_def]
      rw [e]
    · intro i hi
      have hi2 : i < l.length := by omega
      obtain ⟨g', e1, e2, _⟩ := hc i _ (bcells_at l i hi2)
      simp only [Option.some.injEq, Addr.mk.injEq, and_true] at e1
      subst e1
      rw [Nat.zero_add, e2]
      simp [hi2]

/-- Tokens as cells. -/
def tks (ts : List Tk) : List Value := ts.flatMap tkc
theorem tks_at : ∀ (ts : List Tk) (i : Nat) (t : Tk), ts[i]? = some t → ∀ (j : Nat) (v : Value), (tkc t)[j]? = some v → (tks ts)[i * 3 + j]? = some v
  | [], _, _, h, _, _, _ => by simp at h
  | x :: r, 0, t, h, j, v, hv => by
    obtain rfl : x = t := by simpa using h
    have hj : j < (tkc x).length := by
      rcases Nat.lt_or_ge j (tkc x).length with h1 | h1
      · exact h1
      · rw [List.getElem?_eq_none h1] at hv; cases hv
    simp only [tks, List.flatMap_cons, Nat.zero_mul, Nat.zero_add]
    rw [List.getElem?_append_left hj, hv]
  | x :: r, i + 1, t, h, j, v, hv => by
    have := tks_at r i t (by simpa using h) j v hv
    simp only [tks, List.flatMap_cons] at this ⊢
    rw [List.getElem?_append_right (by simp [tkc]; omega), show (i + 1) * 3 + j - (tkc x).length = i * 3 + j from by simp [tkc]; omega, this]
/-- The cells of one token. -/
theorem See.token {w : World} {B : Nat} {A : Option Addr} {ts : List Tk} (h : See w B A (tks ts)) (i : Nat) (t : Tk) (ht : ts[i]? = some t) : ∃ b off, A = some ⟨b, off, none⟩ ∧ b < B ∧
    w.cell? ⟨b, off + i * 3, none⟩ = some (.int .u8 t.b.toNat) ∧ w.cell? ⟨b, off + i * 3 + 1, none⟩ = some (.int .i64 t.n) ∧ w.cell? ⟨b, off + i * 3 + 2, none⟩ = some (.int .i64 t.k) := by
  obtain ⟨b, off, rfl, hb, c0⟩ := h _ _ (tks_at ts i t ht 0 _ rfl)
  obtain ⟨b1, off1, e1, _, c1⟩ := h _ _ (tks_at ts i t ht 1 _ rfl)
  obtain ⟨b2, off2, e2, _, c2⟩ := h _ _ (tks_at ts i t ht 2 _ rfl)
  simp only [Option.some.injEq, Addr.mk.injEq, and_true] at e1 e2
  obtain ⟨rfl, rfl⟩ := e1
  obtain ⟨rfl, rfl⟩ := e2
  exact ⟨b, off, rfl, hb, c0, by rw [Nat.add_assoc]; exact c1, by rw [Nat.add_assoc]; exact c2⟩

def ExPost (w : World) (r : List UInt8 × Int) (e : Ending) (w' : World) : Prop := e = .returned (.tuple #[.string ⟨r.1.toArray⟩, .int .i64 r.2]) ∧ Only (fun _ => False) w w'
/-- Where it stands behind j tokens. -/
def ExAt (w : World) (ts : List Tk) (most : Int) (j : Nat) (l : List UInt8) (A : Option Addr) (q c : Nat) (wx : World) : Prop := l.length = q ∧ expandF most (ts.drop j) l = expandF most ts [] ∧ Made 5 w A q c (bcells l) wx

theorem expand_bad (most : Int) (ts : List Tk) (j : Nat) (t : Tk) (l : List UInt8) (ht : ts[j]? = some t) (h : mayB t = false) : expandF most (ts.drop j) l = ([], 1) := by
  rw [List.drop_eq_getElem_cons (by rcases Nat.lt_or_ge j ts.length with h1 | h1; exact h1; rw [List.getElem?_eq_none h1] at ht; cases ht)]
  rw [show ts[j]'_ = t from (List.getElem?_eq_some_iff.1 ht).2, expandF, if_pos h]
theorem expand_far (most : Int) (ts : List Tk) (j : Nat) (t : Tk) (l : List UInt8) (ht : ts[j]? = some t) (h : mayB t = true) (hk : (l.length : Int) < t.k) : expandF most (ts.drop j) l = ([], 2) := by
  rw [List.drop_eq_getElem_cons (by rcases Nat.lt_or_ge j ts.length with h1 | h1; exact h1; rw [List.getElem?_eq_none h1] at ht; cases ht)]
  rw [show ts[j]'_ = t from (List.getElem?_eq_some_iff.1 ht).2, expandF, if_neg (by rw [h]; decide), if_pos hk]
theorem expand_much (most : Int) (ts : List Tk) (j : Nat) (t : Tk) (l : List UInt8) (ht : ts[j]? = some t) (h : mayB t = true) (hk : t.k ≤ l.length) (hm : most < l.length + sayN t) : expandF most (ts.drop j) l = ([], 7) := by
  rw [List.drop_eq_getElem_cons (by rcases Nat.lt_or_ge j ts.length with h1 | h1; exact h1; rw [List.getElem?_eq_none h1] at ht; cases ht)]
  rw [show ts[j]'_ = t from (List.getElem?_eq_some_iff.1 ht).2, expandF, if_neg (by rw [h]; decide), if_neg (by omega), if_pos hm]
theorem expand_on (most : Int) (ts : List Tk) (j : Nat) (t : Tk) (l : List UInt8) (ht : ts[j]? = some t) (h : mayB t = true) (hk : t.k ≤ l.length) (hm : l.length + sayN t ≤ most) : expandF most (ts.drop j) l = expandF most (ts.drop (j + 1)) (layF t l) := by
  rw [List.drop_eq_getElem_cons (by rcases Nat.lt_or_ge j ts.length with h1 | h1; exact h1; rw [List.getElem?_eq_none h1] at ht; cases ht)]
  rw [show ts[j]'_ = t from (List.getElem?_eq_some_iff.1 ht).2, expandF, if_neg (by rw [h]; decide), if_neg (by omega), if_neg (by omega)]

def IntIn7 (x : Int) : Prop := -9223372036854775808 ≤ x ∧ x ≤ 9223372036854775807

end Go.Proofs.Ytjlkjebmilfgoaa
