/- Layer 7: what tokens say, in the program. -/
import Derived.Test.YtngpameophckeaaLaid
namespace Go.Proofs.Ytngpameophckeaa
open Go.RowKit

/-- string(..) of a row of bytes. -/
theorem Row.toText {P : Program} {src dst e : TypeId} {w : World} {A : Option Addr} {n c : Nat} {l : List UInt8} (hs : P.underlying src = some (.slice e)) (he : P.underlying e = some (.int .u8)) (hd : P.underlying dst = some .string) (h : Row e w A n c (bcells l)) :
    (convert src dst (.slice A n c)).run P w = .ok (.string ⟨l.toArray⟩) w := by
  have hl : l.length = n := by rw [← h.1, bcells_length]
  have hc := fun (i : Nat) (v : Value) (hi : (bcells l)[i]? = some v) => h.cell hi
  obtain ⟨_, ⟨rfl, rfl, rfl, h0⟩ | ⟨g, _, _, rfl, _⟩⟩ := h
  · obtain rfl : l = [] := List.eq_nil_of_length_eq_zero hl
    rw [run_convert_bytes_nil w src e hs he 0 0 dst hd]
    rfl
  · rw [run_convert_bytes_arg w src e hs he g 0 n c (l.map fun b => (b.toNat : Int)) (by simpa using hl) ?_ dst hd]
    · have e : strOfNums (l.map fun b => (b.toNat : Int)) = ⟨l.toArray⟩ := by simp [strOfNums, Function.comp_def]
      rw [e]
    · intro i hi
      have hi2 : i < l.length := by omega
      obtain ⟨g', e1, e2, _⟩ := hc i _ (bcells_at l i hi2)
      simp only [Option.some.injEq, Addr.mk.injEq, and_true] at e1
      subst e1
      rw [Nat.zero_add, e2]
      simp [hi2]

/-- Tokens as cells. -/
def tks (ts : List Tk) : List Value := ts.flatMap tkc
theorem tks_at : ∀ (ts : List Tk) (i : Nat) (t : Tk), ts[i]? = some t → ∀ (j : Nat) (v : Value), (tkc t)[j]? = some v → (tks ts)[i * 3 + j]? = some v
  | [], _, _, h, _, _, _ => by simp at h
  | x :: r, 0, t, h, j, v, hv => by
    obtain rfl : x = t := by simpa using h
    have hj : j < (tkc x).length := by
      rcases Nat.lt_or_ge j (tkc x).length with h1 | h1
      · exact h1
      · rw [List.getElem?_eq_none h1] at hv; cases hv
    simp only [tks, List.flatMap_cons, Nat.zero_mul, Nat.zero_add]
    rw [List.getElem?_append_left hj, hv]
  | x :: r, i + 1, t, h, j, v, hv => by
    have := tks_at r i t (by simpa using h) j v hv
    simp only [tks, List.flatMap_cons] at this ⊢
    rw [List.getElem?_append_right (by simp [tkc]; omega), show (i + 1) * 3 + j - (tkc x).length = i * 3 + j from by simp [tkc]; omega, this]
/-- The cells of one token. -/
theorem See.token {w : World} {B : Nat} {A : Option Addr} {ts : List Tk} (h : See w B A (tks ts)) (i : Nat) (t : Tk) (ht : ts[i]? = some t) : ∃ b off, A = some ⟨b, off, none⟩ ∧ b < B ∧
    w.cell? ⟨b, off + i * 3, none⟩ = some (.int .u8 t.b.toNat) ∧ w.cell? ⟨b, off + i * 3 + 1, none⟩ = some (.int .i64 t.n) ∧ w.cell? ⟨b, off + i * 3 + 2, none⟩ = some (.int .i64 t.k) := by
  obtain ⟨b, off, rfl, hb, c0⟩ := h _ _ (tks_at ts i t ht 0 _ rfl)
  obtain ⟨b1, off1, e1, _, c1⟩ := h _ _ (tks_at ts i t ht 1 _ rfl)
  obtain ⟨b2, off2, e2, _, c2⟩ := h _ _ (tks_at ts i t ht 2 _ rfl)
  simp only [Option.some.injEq, Addr.mk.injEq, and_true] at e1 e2
  obtain ⟨rfl, rfl⟩ := e1
  obtain ⟨rfl, rfl⟩ := e2
  exact ⟨b, off, rfl, hb, c0, by rw [Nat.add_assoc]; exact c1, by rw [Nat.add_assoc]; exact c2⟩

def ExPost (w : World) (r : List UInt8 × Int) (e : Ending) (w' : World) : Prop := e = .returned (.tuple #[.string ⟨r.1.toArray⟩, .int .i64 r.2]) ∧ Only (fun _ => False) w w'
/-- Where it stands behind j tokens. -/
def ExAt (w : World) (ts : List Tk) (most : Int) (j : Nat) (l : List UInt8) (A : Option Addr) (q c : Nat) (wx : World) : Prop := l.length = q ∧ expandF most (ts.drop j) l = expandF most ts [] ∧ Made 5 w A q c (bcells l) wx

theorem expand_bad (most : Int) (ts : List Tk) (j : Nat) (t : Tk) (l : List UInt8) (ht : ts[j]? = some t) (h : mayB t = false) : expandF most (ts.drop j) l = ([], 1) := by
  rw [List.drop_eq_getElem_cons (by rcases Nat.lt_or_ge j ts.length with h1 | h1; exact h1; rw [List.getElem?_eq_none h1] at ht; cases ht)]
  rw [show ts[j]'_ = t from (List.getElem?_eq_some_iff.1 ht).2, expandF, if_pos h]
theorem expand_far (most : Int) (ts : List Tk) (j : Nat) (t : Tk) (l : List UInt8) (ht : ts[j]? = some t) (h : mayB t = true) (hk : (l.length : Int) < t.k) : expandF most (ts.drop j) l = ([], 2) := by
  rw [List.drop_eq_getElem_cons (by rcases Nat.lt_or_ge j ts.length with h1 | h1; exact h1; rw [List.getElem?_eq_none h1] at ht; cases ht)]
  rw [show ts[j]'_ = t from (List.getElem?_eq_some_iff.1 ht).2, expandF, if_neg (by rw [h]; decide), if_pos hk]
theorem expand_much (most : Int) (ts : List Tk) (j : Nat) (t : Tk) (l : List UInt8) (ht : ts[j]? = some t) (h : mayB t = true) (hk : t.k ≤ l.length) (hm : most < l.length + sayN t) : expandF most (ts.drop j) l = ([], 7) := by
  rw [List.drop_eq_getElem_cons (by rcases Nat.lt_or_ge j ts.length with h1 | h1; exact h1; rw [List.getElem?_eq_none h1] at ht; cases ht)]
  rw [show ts[j]'_ = t from (List.getElem?_eq_some_iff.1 ht).2, expandF, if_neg (by rw [h]; decide), if_neg (by omega), if_pos hm]
theorem expand_on (most : Int) (ts : List Tk) (j : Nat) (t : Tk) (l : List UInt8) (ht : ts[j]? = some t) (h : mayB t = true) (hk : t.k ≤ l.length) (hm : l.length + sayN t ≤ most) : expandF most (ts.drop j) l = expandF most (ts.drop (j + 1)) (layF t l) := by
  rw [List.drop_eq_getElem_cons (by rcases Nat.lt_or_ge j ts.length with h1 | h1; exact h1; rw [List.getElem?_eq_none h1] at ht; cases ht)]
  rw [show ts[j]'_ = t from (List.getElem?_eq_some_iff.1 ht).2, expandF, if_neg (by rw [h]; decide), if_neg (by omega), if_neg (by omega)]

def IntIn (x : Int) : Prop := -9223372036854775808 ≤ x ∧ x ≤ 9223372036854775807

set_option maxHeartbeats 4000000 in
theorem expand (A : Option Addr) (n c B : Nat) (ts : List Tk) (most : Int) (w : World) (h : See w B A (tks ts)) (hn : ts.length = n) (h60 : n ≤ 60) : Calls Try.prog 7 #[.slice A n c, .int .i64 most] w (ExPost w (expandF most ts [])) := by
  have HS := Lib.hid h
  have HN := Lib.hid hn
  clear h hn
  go_enter Try.func7, Try.ntmps7
  go_wp2_with fail
  go_loopg [6, 11] n (fun gk v6 i wx => ∃ (j q : Nat) (A' : Option Addr) (c' : Nat) (l : List UInt8), i = .int .i64 j ∧ v6 = .slice A' q c' ∧ j + gk ≤ n ∧ n ≤ j + gk ∧ q ≤ 258 * j ∧ Hid (ExAt w ts most j l A' q c' wx))
  case atStart => exact ⟨0, 0, none, 0, [], rfl, rfl, by omega, by omega, by omega, Lib.hid ⟨rfl, rfl, Row.nil 5 w, Only.refl _ w, by rintro j ⟨ad, e, _⟩; cases e⟩⟩
  case round =>
    obtain ⟨j, q, A', c', l, rfl, rfl, hg1, hg2, hq, HE⟩ := hrel
    by_cases hlt : j < n
    · obtain ⟨t, ht⟩ : ∃ t, ts[j]? = some t := ⟨ts[j]'(by rw [HN.out]; exact hlt), by simp [HN.out, hlt]⟩
      obtain ⟨b0, off, rfl, _, c0, c1, c2⟩ := (HS.out.new HE.out.2.2.2.1).token j t ht
      have HT := Lib.hid ht
      obtain ⟨b, tn, tk⟩ := t
      simp only at c0 c1 c2
      clear ht
      go_upto_region 5 with fail
      obtain ⟨wa, hwa⟩ : ∃ wa, wr.alloc (.cells #[.int .u8 b.toNat, .int .i64 tn, .int .i64 tk] 30) = wa := ⟨_, rfl⟩
      obtain ⟨g, hg⟩ : ∃ g, wr.heap.size = g := ⟨_, rfl⟩
      have hIa : Is wa g 30 (tkc ⟨b, tn, tk⟩) := by rw [← hwa, ← hg]; exact Is.new wr 30 _
      have HEa : Hid (ExAt w ts most j l A' q c' wa) := Lib.hid ⟨HE.out.1, HE.out.2.1, hwa ▸ HE.out.2.2.alloc _⟩
      have ca0 := hIa.cell 0 rfl
      have ca1 := hIa.cell 1 rfl
      have ca2 := hIa.cell 2 rfl
      have HIa := Lib.hid hIa
      rw [hwa, hg]
      clear hwa hg hIa HE c0 c1 c2
      by_cases hmay : mayB ⟨b, tn, tk⟩ = true
      · have HM := Lib.hid hmay
        clear hmay
        go_upto_region 7 with (go_at_call 9; refine (may ⟨b, tn, tk⟩ wa).mono ?_; rintro e w2 ⟨rfl, ho⟩; rw [HM.out]; have HO := Lib.hid ho; clear ho)
        have HI2 : Hid (Is w2 g 30 (tkc ⟨b, tn, tk⟩)) := Lib.hid (HIa.out.only HO.out fun f => f)
        have HE2 : Hid (ExAt w ts most j l A' q c' w2) := Lib.hid ⟨HEa.out.1, HEa.out.2.1, HEa.out.2.2.1.only HO.out (fun _ _ f => f), HEa.out.2.2.2.1.trans HO.out, HEa.out.2.2.2.2⟩
        have ca0 := HI2.out.cell 0 rfl
        have ca1 := HI2.out.cell 1 rfl
        have ca2 := HI2.out.cell 2 rfl
        clear HEa HIa
        by_cases hk : (q : Int) < tk
        · have HX : Hid (expandF most ts [] = ([], 2)) := Lib.hid (by rw [← HE2.out.2.1]; exact expand_far most ts j _ l HT.out HM.out (by rw [HE2.out.1]; exact hk))
          go_wp2
          go_ret2
          rw [HX.out]
          exact ⟨rfl, HE2.out.2.2.2.1⟩
        · have hk2 : tk ≤ (q : Int) := by omega
          rcases may_cases _ HM.out with ⟨h1, h2⟩ | ⟨h1, h2, h3, h4⟩
          · simp only at h1 h2
            subst h1 h2
            have HY : Hid (sayN ⟨b, 0, 0⟩ = 1) := Lib.hid rfl
            by_cases hm : most < (q : Int) + 1
            · have HX : Hid (expandF most ts [] = ([], 7)) := Lib.hid (by rw [← HE2.out.2.1]; exact expand_much most ts j _ l HT.out HM.out (by rw [HE2.out.1]; exact hk2) (by rw [HE2.out.1, HY.out]; exact hm))
              go_wp2
              go_ret2
              rw [HX.out]
              exact ⟨rfl, HE2.out.2.2.2.1⟩
            · have hm2 : (q : Int) + 1 ≤ most := by omega
              go_wp2_with (go_at_call 19; refine (laid w w2 A' q c' l _ HE2.out.2.2 (by omega) HM.out (by exact hk2)).mono ?_; rintro e w3 ⟨A3, c3, rfl, hm3⟩; rw [HY.out]; rw [HY.out] at hm3; have HM3 := Lib.hid hm3; clear hm3)
              go_roundg (gk - 1)
              case measure => omega
              case rel =>
                have hl := lay_length _ l HM.out
                rw [HE2.out.1, HY.out] at hl
                refine ⟨j + 1, q + (1 : Int).toNat, A3, c3, layF ⟨b, 0, 0⟩ l, by go_num, rfl, by omega, by omega, by omega, Lib.hid ⟨by omega, ?_, HM3.out⟩⟩
                rw [← HE2.out.2.1]
                exact (expand_on most ts j _ l HT.out HM.out (by rw [HE2.out.1]; exact hk2) (by rw [HE2.out.1, HY.out]; exact hm2)).symm
          · simp only at h1 h2 h3 h4
            have HY : Hid (sayN ⟨b, tn, tk⟩ = tn) := Lib.hid (by unfold sayN; rw [if_neg (by simp only; omega)])
            by_cases hm : most < (q : Int) + tn
            · have HX : Hid (expandF most ts [] = ([], 7)) := Lib.hid (by rw [← HE2.out.2.1]; exact expand_much most ts j _ l HT.out HM.out (by rw [HE2.out.1]; exact hk2) (by rw [HE2.out.1, HY.out]; exact hm))
              go_wp2
              go_ret2
              rw [HX.out]
              exact ⟨rfl, HE2.out.2.2.2.1⟩
            · have hm2 : (q : Int) + tn ≤ most := by omega
              go_wp2_with (go_at_call 19; refine (laid w w2 A' q c' l _ HE2.out.2.2 (by omega) HM.out (by exact hk2)).mono ?_; rintro e w3 ⟨A3, c3, rfl, hm3⟩; rw [HY.out]; rw [HY.out] at hm3; have HM3 := Lib.hid hm3; clear hm3)
              go_roundg (gk - 1)
              case measure => omega
              case rel =>
                have hl := lay_length _ l HM.out
                rw [HE2.out.1, HY.out] at hl
                refine ⟨j + 1, q + (tn : Int).toNat, A3, c3, layF ⟨b, tn, tk⟩ l, by go_num, rfl, by omega, by omega, by omega, Lib.hid ⟨by omega, ?_, HM3.out⟩⟩
                rw [← HE2.out.2.1]
                exact (expand_on most ts j _ l HT.out HM.out (by rw [HE2.out.1]; exact hk2) (by rw [HE2.out.1, HY.out]; exact hm2)).symm
      · have HM : Hid (mayB ⟨b, tn, tk⟩ = false) := Lib.hid (by simpa using hmay)
        clear hmay
        have HX : Hid (expandF most ts [] = ([], 1)) := Lib.hid (by rw [← HEa.out.2.1]; exact expand_bad most ts j _ l HT.out HM.out)
        go_wp2_with (go_at_call 9; refine (may ⟨b, tn, tk⟩ wa).mono ?_; rintro e w2 ⟨rfl, ho⟩; rw [HM.out]; have HO := Lib.hid ho; clear ho)
        go_ret2
        rw [HX.out]
        exact ⟨rfl, HEa.out.2.2.2.1.trans HO.out⟩
    · obtain rfl : j = n := by omega
      have hc := HE.out.2.2.1.toText Try.underlying38 Try.underlying5 Try.underlying9
      have HX : Hid (expandF most ts [] = (l, 0)) := Lib.hid (by rw [← HE.out.2.1, List.drop_of_length_le (by rw [HN.out]; exact Nat.le_refl _)]; rfl)
      have HO := Lib.hid HE.out.2.2.2.1
      clear HE
      go_wp2
      go_ret2
      rw [HX.out]
      exact ⟨rfl, HO.out⟩
end Go.Proofs.Ytngpameophckeaa
