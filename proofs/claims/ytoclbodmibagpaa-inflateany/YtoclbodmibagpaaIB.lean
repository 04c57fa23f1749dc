/- Layer 8, the program: symbols, and stored bytes. -/
import Derived.Test.YtoclbodmibagpaaIA
import Derived.Test.YtoclbodmibagpaaKShape
import Derived.Laws.ResultCell
import Derived.Test.YtoclbodmibagpaaM8
import Derived.Test.YtoclbodmibagpaaM7
/- Layer 8, the program: symbols up to a block's end. -/
namespace Go.Proofs.Ytoclbodmibagpaa
open Go.RowKit

/-- Two tables; all that they lead to lies from lo up to hi. -/
structure Cods (w : World) (lo hi T1 T2 : Nat) (la lb : List Nat) : Prop where
  t1 : Tab w lo T1 la
  t2 : Tab w lo T2 lb
  h1 : T1 ≤ hi
  h2 : T2 ≤ hi
  hh : hi < w.heap.size
/-- Lengths that make a code of symbols. -/
structure Lens (la : List Nat) : Prop where
  low : Low la
  len : la.length ≤ 288
theorem Cods.keep {w w' : World} {lo hi T1 T2 : Nat} {la lb : List Nat} {X : Nat → Prop} (h : Cods w lo hi T1 T2 la lb) (k : Only X w w') (hd : ∀ j, lo ≤ j → j ≤ hi → ¬ X j) : Cods w' lo hi T1 T2 la lb :=
  ⟨h.t1.keep k fun j a b => hd j a (Nat.le_trans b h.h1), h.t2.keep k fun j a b => hd j a (Nat.le_trans b h.h2), h.h1, h.h2, Nat.lt_of_lt_of_le h.hh k.size⟩

/-- Where reading symbols stands. -/
structure CAt (w : World) (b d : Nat) (s : ByteArray) (most : Int) (A : Option Addr) (kv p1 p2 : Value) (lo hi T1 T2 : Nat) (la lb : List Nat) (K a : Nat) (A' : Option Addr) (n c : Nat) (out : List UInt8) (wx : World) : Prop where
  str : Str wx b d most A' n c kv p1 p2 out
  rd : Rd wx b s a false
  only : Only (Mine b d A) w wx
  lies : ∀ j, Lies A' j → Lies A j ∨ w.heap.size ≤ j
  cods : Cods wx lo hi T1 T2 la lb
  box : Is wx K 57 [.pointer (some ⟨T1, 0, none⟩), .pointer (some ⟨T2, 0, none⟩)]
  far : ∀ j, lo ≤ j → j ≤ hi → ¬ Mine b d A' j
  nK : ¬ Mine b d A' K

section
variable {w wx wy : World} {b d : Nat} {s : ByteArray} {most : Int} {A A' : Option Addr} {kv p1 p2 : Value} {lo hi T1 T2 : Nat} {la lb : List Nat} {K a n c : Nat} {out : List UInt8}
theorem CAt.read (h : CAt w b d s most A kv p1 p2 lo hi T1 T2 la lb K a A' n c out wx) (k : Only (· = b) wx wy) {a2 : Nat} (hr : Rd wy b s a2 false) : CAt w b d s most A kv p1 p2 lo hi T1 T2 la lb K a2 A' n c out wy :=
  ⟨h.str.read k, hr, h.only.trans (k.mono fun _ e => .inl e), h.lies, h.cods.keep k fun j h1 h2 e => h.far j h1 h2 (.inl e), h.box.only k fun e => h.nK (.inl e), h.far, h.nK⟩
theorem CAt.next (h : CAt w b d s most A kv p1 p2 lo hi T1 T2 la lb K a A' n c out wx) {r : Ans} {e : Ending} (hd : Done wx b d s most A' kv p1 p2 r e wy) (h0 : r.1 = 0) : ∃ A2 c2, CAt w b d s most A kv p1 p2 lo hi T1 T2 la lb K r.2.1 A2 r.2.2.length c2 r.2.2 wy := by
  obtain ⟨_, ho, hk⟩ := hd
  obtain ⟨A2, c2, g1, g2, g3⟩ := hk h0
  have hK := h.box.lt
  have hhi := h.cods.hh
  have far2 : ∀ j, j < wx.heap.size → ¬ Mine b d A' j → ¬ Mine b d A2 j := by
    rintro j hj hm (e | e | e)
    · exact hm (.inl e)
    · exact hm (.inr (.inl e))
    · exact (g3 j e).elim (fun x => hm (.inr (.inr x))) (fun x => by omega)
  refine ⟨A2, c2, g1, g2, h.only.andThen ho ?_, fun j hj => ?_, h.cods.keep ho h.far, h.box.only ho h.nK, fun j h1 h2 => far2 j (by omega) (h.far j h1 h2), far2 K hK h.nK⟩
  · rintro j (e | e | e)
    · exact .inl (.inl e)
    · exact .inl (.inr (.inl e))
    · exact (h.lies j e).imp (fun x => .inr (.inr x)) id
  · exact (g3 j hj).elim (h.lies j) fun x => .inr (Nat.le_trans h.only.size x)
theorem CAt.bad (h : CAt w b d s most A kv p1 p2 lo hi T1 T2 la lb K a A' n c out wx) {r : Ans} {e : Ending} (hd : Done wx b d s most A' kv p1 p2 r e wy) : Only (Mine b d A) w wy := by
  refine h.only.andThen hd.2.1 ?_
  rintro j (e | e | e)
  · exact .inl (.inl e)
  · exact .inl (.inr (.inl e))
  · exact (h.lies j e).imp (fun x => .inr (.inr x)) id
theorem CAt.done (h : CAt w b d s most A kv p1 p2 lo hi T1 T2 la lb K a A' n c out wx) {r : Ans} (hr : r = (0, a, out)) : Done w b d s most A kv p1 p2 r (.returned (.int .i64 0)) wx := by
  subst hr
  exact ⟨rfl, h.only, fun _ => ⟨A', c, by rw [h.str.len]; exact h.str, h.rd, h.lies⟩⟩
end

theorem mCoded_step (B : List UInt8) (la lb : List Nat) (most : Int) (f a : Nat) (out : List UInt8) : mCoded B la lb most (f + 1) a out =
    if (rdp la B a).2.2 ≠ 0 then ((rdp la B a).2.2, a, out)
    else if (rdp la B a).1 = 256 then (0, (rdp la B a).2.1, out)
    else if (rdp la B a).1 < 256 then (if most < out.length + 1 then (7, a, out) else mCoded B la lb most f (rdp la B a).2.1 (out ++ [UInt8.ofNat (rdp la B a).1]))
    else if (mBack B lb most (rdp la B a).1 (rdp la B a).2.1 out).1 ≠ 0 then mBack B lb most (rdp la B a).1 (rdp la B a).2.1 out
    else mCoded B la lb most f (mBack B lb most (rdp la B a).1 (rdp la B a).2.1 out).2.1 (mBack B lb most (rdp la B a).1 (rdp la B a).2.1 out).2.2 := rfl

set_option maxRecDepth 100000 in
set_option maxHeartbeats 4000000 in
theorem coded (b d lo hi T1 T2 : Nat) (s : ByteArray) (a : Nat) (most : Int) (A : Option Addr) (n c : Nat) (kv p1 p2 : Value) (out : List UInt8) (la lb : List Nat) (w : World) (h : Str w b d most A n c kv p1 p2 out) (hr : Rd w b s a false) (hT : Cods w lo hi T1 T2 la lb) (hbl : b < lo)
    (far : ∀ j, lo ≤ j → j ≤ hi → ¬ Mine b d A j) (hla : Lens la) (hlb : Lens lb) (hs : s.size ≤ 1073741824) (ha : a ≤ 8 * s.size) (hn : n ≤ 100000) (hmost : most ≤ 100000) :
    Calls Try.prog 63 #[.pointer (some ⟨d, 0, none⟩), .agg #[.pointer (some ⟨T1, 0, none⟩), .pointer (some ⟨T2, 0, none⟩)]] w (Done w b d s most A kv p1 p2 (mCoded (bitsOf s.data.toList) la lb most (8 * s.size + 1) a out)) := by
  obtain ⟨r, hr0⟩ : ∃ r, mCoded (bitsOf s.data.toList) la lb most (8 * s.size + 1) a out = r := ⟨_, rfl⟩
  rw [hr0]
  have hok : Only (fun _ => False) w (w.alloc (.cells #[.pointer (some ⟨T1, 0, none⟩), .pointer (some ⟨T2, 0, none⟩)] 57)) := (Only.refl _ w).alloc _
  have hst : CAt w b d s most A kv p1 p2 lo hi T1 T2 la lb w.heap.size a A n c out (w.alloc (.cells #[.pointer (some ⟨T1, 0, none⟩), .pointer (some ⟨T2, 0, none⟩)] 57)) :=
    ⟨h.new hok, hr.only hok fun f => f, hok.mono fun _ f => f.elim, fun j hj => .inl hj, hT.keep hok fun _ _ _ f => f, Is.new w 57 _, far, by
      have q1 := h.is.lt
      have q2 := hr.lt
      have q3 := h.row.lies
      rintro (e | e | e)
      · omega
      · omega
      · exact Nat.lt_irrefl _ (q3 _ e)⟩
  obtain ⟨wa, hwa⟩ : ∃ wa, w.alloc (.cells #[.pointer (some ⟨T1, 0, none⟩), .pointer (some ⟨T2, 0, none⟩)] 57) = wa := ⟨_, rfl⟩
  rw [hwa] at hst
  obtain ⟨K, hK⟩ : ∃ K, w.heap.size = K := ⟨_, rfl⟩
  rw [hK] at hst
  have HST := Lib.hid hst
  have HM : Hid (∀ (f a : Nat) (out : List UInt8), 8 * s.size < a + f → ∃ g, f = g + 1 ∨ 8 * s.size < a) := Lib.hid fun f a out h => ⟨f - 1, by omega⟩
  have HR0 := Lib.hid hr0
  have HLA := Lib.hid hla
  have HLB := Lib.hid hlb
  clear hst h hr hT far hok hr0 hla hlb HM
  go_enter Try.func63, Try.ntmps63
  go_wp2_with fail
  go_loopg [5, 6] (8 * s.size + 1) (fun gk u v wx => ∃ (a : Nat) (A' : Option Addr) (n c : Nat) (out : List UInt8), a ≤ 8 * s.size ∧ 8 * s.size < a + gk ∧ n ≤ 100000 ∧ Hid (CAt w b d s most A kv p1 p2 lo hi T1 T2 la lb K a A' n c out wx) ∧ Hid (mCoded (bitsOf s.data.toList) la lb most gk a out = r))
  case atStart => exact ⟨a, A, n, c, out, ha, by omega, hn, HST, HR0⟩
  case round =>
    clear HST HR0 hwa hK hn ha
    obtain ⟨a, A', n, c, out, ha, hgk, hn, HC, HR0⟩ := hrel
    obtain ⟨f, rfl⟩ : ∃ f, gk = f + 1 := ⟨gk - 1, by omega⟩
    have hm := HR0.out
    rw [mCoded_step] at hm
    have HC1 := HC.out
    have HRD := Lib.hid (tread lo T1 b s la a wr.drew (HC1.cods.t1.new ((Only.refl _ wr).drew)) HC1.rd.drew hbl HLA.out.low HLA.out.len hs ha)
    have hmv := rdp_moves la (bitsOf s.data.toList) a
    have hsy := rdp_symbol la (bitsOf s.data.toList) a HLA.out.len
    rw [bits_len] at hmv
    obtain ⟨⟨y, a2, x⟩, hq⟩ : ∃ q, rdp la (bitsOf s.data.toList) a = q := ⟨_, rfl⟩
    rw [hq] at HRD hm hmv hsy
    simp only at hm hmv hsy
    have d0 := HC1.str.c0
    have k0 := HC1.box.cell 0 rfl
    have hSS : wr.drew.cell? ⟨K, 0, none⟩ = some (.pointer (some ⟨T1, 0, none⟩)) ∧ wr.drew.cell? ⟨d, 0, none⟩ = some (.pointer (some ⟨b, 0, none⟩)) := ⟨k0, d0⟩
    have HSS := Lib.hid hSS
    have HSK : Hid (∀ w2, Only (· = b) wr.drew w2 → w2.cell? ⟨K, 0, none⟩ = some (.pointer (some ⟨T1, 0, none⟩)) ∧ w2.cell? ⟨d, 0, none⟩ = some (.pointer (some ⟨b, 0, none⟩))) := Lib.hid fun w2 ho => ⟨ho.cell k0 fun e => HC1.nK (.inl e), ho.cell d0 HC1.str.ne⟩
    have HCD : Hid (∀ w2 a2, Only (· = b) wr.drew w2 → Rd w2 b s a2 false → CAt w b d s most A kv p1 p2 lo hi T1 T2 la lb K a2 A' n c out w2) := Lib.hid fun w2 a2 ho hr2 => HC1.read (((Only.refl (· = b) wr).drew).trans ho) hr2
    have HOD : Hid (∀ w2, Only (· = b) wr.drew w2 → Only (Mine b d A) w w2) := Lib.hid fun w2 ho => (HC1.only.drew).trans (ho.mono fun _ e => .inl e)
    clear HC1 hq hSS d0 k0 HC HR0
    go_wp2_with fail
    refine Steps.region (fun W => W.cell? ⟨K, 0, none⟩ = some (.pointer (some ⟨T1, 0, none⟩)) ∧ W.cell? ⟨d, 0, none⟩ = some (.pointer (some ⟨b, 0, none⟩))) [(true, 0), (true, 1), (true, 2), (true, 3), (true, 4), (true, 5), (false, 6), (true, 7), (true, 8), (true, 9), (true, 10), (true, 11)] (by kernel_rfl) (by kernel_rfl) rfl (by kernel_rfl) (fun _ _ d _ _ h => by cases d <;> exact h) ?_
    refine Steps.take (.pointer (some ⟨K, 0, none⟩)) rfl HSS.out (fun _ _ => by kernel_rfl) ?_
    simp only [Act.put, List.setIfInBounds_toArray, List.set_cons_succ, List.set_cons_zero]
    refine Steps.take (.pointer (some ⟨T1, 0, none⟩)) rfl HSS.out (fun _ hW => by obtain ⟨hw1, hw2⟩ := hW; go_simp) ?_
    simp only [Act.put, List.setIfInBounds_toArray, List.set_cons_succ, List.set_cons_zero]
    refine Steps.take (.pointer (some ⟨d, 0, none⟩)) rfl HSS.out (fun _ _ => by kernel_rfl) ?_
    simp only [Act.put, List.setIfInBounds_toArray, List.set_cons_succ, List.set_cons_zero]
    refine Steps.take (.pointer (some ⟨d, 0, none⟩)) rfl HSS.out (fun _ _ => by kernel_rfl) ?_
    simp only [Act.put, List.setIfInBounds_toArray, List.set_cons_succ, List.set_cons_zero]
    refine Steps.take (.pointer (some ⟨d, 0, none⟩)) rfl HSS.out (fun _ _ => by kernel_rfl) ?_
    simp only [Act.put, List.setIfInBounds_toArray, List.set_cons_succ, List.set_cons_zero]
    refine Steps.take (.pointer (some ⟨b, 0, none⟩)) rfl HSS.out (fun _ hW => by obtain ⟨hw1, hw2⟩ := hW; go_simp) ?_
    simp only [Act.put, List.setIfInBounds_toArray, List.set_cons_succ, List.set_cons_zero]
    refine Steps.call 92 #[.pointer (some ⟨T1, 0, none⟩), .pointer (some ⟨b, 0, none⟩)] rfl (by kernel_rfl) (HRD.out.mono ?_)
    rintro e w2 ⟨rfl, hr2, ho2⟩
    refine ⟨_, rfl, HSK.out w2 ho2, ?_⟩
    simp only [Act.put, List.setIfInBounds_toArray, List.set_cons_succ, List.set_cons_zero]
    refine Steps.take (.tuple #[.int .i64 y, .int .i64 x]) rfl (HSK.out w2 ho2) (fun _ _ => by kernel_rfl) ?_
    simp only [Act.put, List.setIfInBounds_toArray, List.set_cons_succ, List.set_cons_zero]
    refine Steps.take (.int .i64 y) rfl (HSK.out w2 ho2) (fun _ _ => by kernel_rfl) ?_
    simp only [Act.put, List.setIfInBounds_toArray, List.set_cons_succ, List.set_cons_zero]
    refine Steps.take (.int .i64 x) rfl (HSK.out w2 ho2) (fun _ _ => by kernel_rfl) ?_
    simp only [Act.put, List.setIfInBounds_toArray, List.set_cons_succ, List.set_cons_zero]
    refine Steps.take (.int .i64 y) rfl (HSK.out w2 ho2) (fun _ _ => by kernel_rfl) ?_
    simp only [Act.put, List.setIfInBounds_toArray, List.set_cons_succ, List.set_cons_zero]
    refine Steps.take (.int .i64 x) rfl (HSK.out w2 ho2) (fun _ _ => by kernel_rfl) ?_
    simp only [Act.put, List.setIfInBounds_toArray, List.set_cons_succ, List.set_cons_zero]
    show wpList _ _ _ _ _ _
    by_cases hx : x = 0
    · subst hx
      rw [if_neg (by simp)] at hm
      obtain ⟨m1, m2⟩ := hmv rfl
      have HC2 := Lib.hid (HCD.out w2 a2 ho2 (hr2 rfl))
      clear hmv hr2 ho2 HSK HSS HCD HOD HRD
      by_cases hy : y = 256
      · rw [if_pos hy] at hm
        have HD := Lib.hid (HC2.out.done hm.symm)
        subst hy
        clear hm
        go_wp2_with fail
        go_ret
        exact HD.out
      · rw [if_neg hy] at hm
        have hy1 : ¬ (y : Int) = 256 := by omega
        by_cases hy2 : y < 256
        · rw [if_pos hy2] at hm
          have hy3 : (y : Int) < 256 := by omega
          have hone := one b d s a2 most A' n c kv p1 p2 out (UInt8.ofNat y) w2 HC2.out.str HC2.out.rd (by omega)
          have eb : (UInt8.ofNat y).toNat = y := by rw [UInt8.toNat_ofNat']; omega
          rw [eb] at hone
          unfold mOne at hone
          rw [HC2.out.str.len] at hone hm
          have HO1 := Lib.hid hone
          have ew : IntKind.u8.wrap (y : Int) = (y : Int) := by rw [IntKind.wrap_u8']; omega
          clear hone eb
          by_cases hroom : most < (n : Int) + 1
          · rw [if_pos hroom] at hm HO1
            have HM := Lib.hid hm
            clear hm hroom
            go_wp2_with fail
            refine HO1.out.mono ?_
            intro e w3 hd3
            have ho3 := HC2.out.bad hd3
            obtain ⟨rfl, _⟩ := hd3
            have HO3 := Lib.hid ho3
            clear ho3 HO1
            go_wp2
            go_ret
            exact ⟨by rw [← HM.out]; rfl, HO3.out, by rw [← HM.out]; intro h; cases h⟩
          · rw [if_neg hroom] at hm HO1
            have HM := Lib.hid hm
            have HLN : Hid ((out ++ [UInt8.ofNat y]).length ≤ 100000) := Lib.hid (by rw [List.length_append, HC2.out.str.len]; simp; omega)
            clear hm hroom
            go_wp2_with fail
            refine HO1.out.mono ?_
            intro e w3 hd3
            obtain ⟨A3, c3, hc3⟩ := HC2.out.next hd3 rfl
            obtain ⟨rfl, _⟩ := hd3
            have HC3 := Lib.hid hc3
            clear hc3 HO1
            go_wp2_with fail
            go_roundg f
            case measure => omega
            case rel => exact ⟨a2, A3, _, c3, _, m2, by omega, HLN.out, HC3, HM⟩
        · rw [if_neg hy2] at hm
          have hy3 : ¬ (y : Int) < 256 := by omega
          have hT2 := HC2.out.cods.t2
          have hsev := several b d lo T2 s a2 most A' n c kv p1 p2 out lb y w2 HC2.out.str HC2.out.rd hT2 hbl HLB.out.low HLB.out.len hs m2 hn hmost (by omega) (by omega)
          have hbo := mBack_ok (bitsOf s.data.toList) lb most y a2 out
          obtain ⟨⟨x3, a3, o3⟩, hq3⟩ : ∃ q, mBack (bitsOf s.data.toList) lb most y a2 out = q := ⟨_, rfl⟩
          rw [hq3] at hm hsev hbo
          simp only at hm hbo
          have HSV := Lib.hid hsev
          have k1 := HC2.out.box.cell 1 rfl
          clear hsev hq3 hT2
          by_cases hx3 : x3 = 0
          · subst hx3
            rw [if_neg (by simp)] at hm
            obtain ⟨n1, n2, n3⟩ := hbo rfl
            rw [bits_len] at n2
            have HM := Lib.hid hm
            have HLN : Hid (o3.length ≤ 100000) := Lib.hid (by omega)
            clear hm hbo n3
            go_wp2_with fail
            refine HSV.out.mono ?_
            intro e w3 hd3
            obtain ⟨A3, c3, hc3⟩ := HC2.out.next hd3 rfl
            obtain ⟨rfl, _⟩ := hd3
            have HC3 := Lib.hid hc3
            clear hc3 HSV
            go_wp2_with fail
            go_roundg f
            case measure => omega
            case rel => exact ⟨a3, A3, _, c3, o3, n2, by omega, HLN.out, HC3, HM⟩
          · rw [if_pos hx3] at hm
            have hx4 : ¬ (x3 : Int) = 0 := by omega
            have HM := Lib.hid hm
            clear hm hbo
            go_wp2_with fail
            refine HSV.out.mono ?_
            intro e w3 hd3
            have ho3 := HC2.out.bad hd3
            obtain ⟨rfl, _⟩ := hd3
            have HO3 := Lib.hid ho3
            clear ho3 HSV
            go_wp2
            go_ret
            exact ⟨by rw [← HM.out]; rfl, HO3.out, by rw [← HM.out]; intro h; exact absurd h hx3⟩
    · rw [if_pos hx] at hm
      have hx4 : ¬ (x : Int) = 0 := by omega
      have HM := Lib.hid hm
      have HO3 := Lib.hid (HOD.out w2 ho2)
      clear hm hmv hr2 ho2 HSK HSS HCD HOD HRD
      go_wp2_with fail
      go_ret
      exact ⟨by rw [← HM.out]; rfl, HO3.out, by rw [← HM.out]; intro h; exact absurd h hx⟩
end Go.Proofs.Ytoclbodmibagpaa

/- Layer 8, the program: the lengths of kind 1, and two tables of lengths. -/

/- Layer 8, the program: the tables of a block. -/
namespace Go.Proofs.Ytoclbodmibagpaa
open Go.RowKit

/-- What newCodes comes to. -/
def NewC (w : World) (la lb : List Nat) (e : Ending) (w' : World) : Prop := Only (fun _ => False) w w' ∧
  if (kd la).2 ≠ 0 ∨ (kd lb).2 ≠ 0 then ∃ v, e = .returned (.tuple #[v, .int .i64 10]) ∧ ∃ p q, v = .agg #[.pointer p, .pointer q] else ∃ T1 T2 hi, e = .returned (.tuple #[.agg #[.pointer (some ⟨T1, 0, none⟩), .pointer (some ⟨T2, 0, none⟩)], .int .i64 0]) ∧ Cods w' w.heap.size hi T1 T2 la lb

set_option maxRecDepth 20000 in
set_option maxHeartbeats 2000000 in
theorem newCodes (A1 A2 : Option Addr) (n1 c1 n2 c2 : Nat) (la lb : List Nat) (w : World) (h1 : See w w.heap.size A1 (ints la)) (h2 : See w w.heap.size A2 (ints lb)) (hn1 : la.length = n1) (hn2 : lb.length = n2) (hla : Lens la) (hlb : Lens lb) :
    Calls Try.prog 95 #[.slice A1 n1 c1, .slice A2 n2 c2] w (NewC w la lb) := by
  obtain ⟨wa, hwa⟩ : ∃ wa, w.alloc (.cells #[.pointer none, .pointer none] 57) = wa := ⟨_, rfl⟩
  have hoa : Only (fun _ => False) w wa := by rw [← hwa]; exact (Only.refl _ w).alloc _
  have hia : Is wa w.heap.size 57 [.pointer none, .pointer none] := by rw [← hwa]; exact Is.new w 57 _
  obtain ⟨K, hK⟩ : ∃ K, w.heap.size = K := ⟨_, rfl⟩
  rw [hK] at hia
  have s1 : ∀ wx, Only (fun _ => False) wa wx → See wx wx.heap.size A1 (ints la) := fun wx ho => (h1.new (hoa.trans ho)).more (hoa.trans ho).size
  have s2 : ∀ wx, Only (fun _ => False) wa wx → See wx wx.heap.size A2 (ints lb) := fun wx ho => (h2.new (hoa.trans ho)).more (hoa.trans ho).size
  have l1 := hla.len
  have l2 := hlb.len
  rw [hn1] at l1
  rw [hn2] at l2
  rcases kd_two la with k1 | k1
  · have N1 := Lib.hid (new_yes A1 n1 c1 _ la wa (s1 wa (Only.refl _ _)) (Nat.le_refl _) hn1 l1 hla.low k1)
    rcases kd_two lb with k2 | k2
    · have N2 : Hid (∀ wx, Only (fun _ => False) wa wx → Calls Try.prog 106 #[.slice A2 n2 c2] wx (NewYes wx lb)) := Lib.hid fun wx ho => new_yes A2 n2 c2 _ lb wx (s2 wx ho) (Nat.le_refl _) hn2 l2 hlb.low k2
      have FIN : Hid (∀ T1 T2 w2 w3, Tab w2 wa.heap.size T1 la → Only (fun _ => False) wa w2 → wa.heap.size ≤ T1 → Tab w3 w2.heap.size T2 lb → Only (fun _ => False) w2 w3 → w2.heap.size ≤ T2 → NewC w la lb (.returned (.tuple #[.agg #[.pointer (some ⟨T1, 0, none⟩), .pointer (some ⟨T2, 0, none⟩)], .int .i64 0])) ((w3.setCell ⟨K, 0, none⟩ (.pointer (some ⟨T1, 0, none⟩))).setCell ⟨K, 1, none⟩ (.pointer (some ⟨T2, 0, none⟩))) ∧ Is w3 K 57 [.pointer none, .pointer none] ∧ Is ((w3.setCell ⟨K, 0, none⟩ (.pointer (some ⟨T1, 0, none⟩))).setCell ⟨K, 1, none⟩ (.pointer (some ⟨T2, 0, none⟩))) K 57 [.pointer (some ⟨T1, 0, none⟩), .pointer (some ⟨T2, 0, none⟩)]) := Lib.hid fun T1 T2 w2 w3 t1 o1 q1 t2 o2 q2 => by
        have oo := hoa.trans (o1.trans o2)
        have ow : Only (· = K) w3 ((w3.setCell ⟨K, 0, none⟩ (.pointer (some ⟨T1, 0, none⟩))).setCell ⟨K, 1, none⟩ (.pointer (some ⟨T2, 0, none⟩))) := (Only.one w3 K 0 _).trans (Only.one _ K 1 _)
        have hka := hia.lt
        have z1 := o1.size
        have i3 : Is w3 K 57 [.pointer none, .pointer none] := hia.only (o1.trans o2) fun f => f
        have tt1 := t1.lt
        have tt2 := t2.lt
        have t1' := (t1.new o2).keep ow fun j a b e => by omega
        have t2' := t2.keep ow fun j a b e => by omega
        refine ⟨⟨oo.andThen ow fun j e => .inr (by omega), ?_⟩, i3, (i3.set 0 _).set 1 _⟩
        rw [if_neg (by rw [k1, k2]; simp)]
        refine ⟨T1, T2, T2, rfl, t1'.less (by have := hoa.size; omega), t2'.less (by have := hoa.size; omega), by omega, Nat.le_refl _, ?_⟩
        have := ow.size
        omega
      clear h1 h2 hoa s1 s2 hla hlb k1 k2 l1 l2 hn1 hn2 hia
      go_enter Try.func95, Try.ntmps95
      go_wp2_with fail
      refine N1.out.mono ?_
      rintro e w2 ⟨T1, rfl, t1, o1, q1⟩
      have HT1 := Lib.hid t1
      have HO1 := Lib.hid o1
      clear t1 o1 N1
      go_wp2_with fail
      refine (N2.out w2 HO1.out).mono ?_
      rintro e w3 ⟨T2, rfl, t2, o2, q2⟩
      obtain ⟨f1, f2, f3⟩ := FIN.out T1 T2 w2 w3 HT1.out HO1.out q1 t2 o2 q2
      have HF := Lib.hid f1
      have g0 := f2.cell 0 rfl
      have g1 := f2.cell 1 rfl
      have z0 := f2.frozen 0
      have z1 := f2.frozen 1
      have HF3 := Lib.hid f3
      clear t2 o2 f1 f2 f3 N2 FIN HT1 HO1
      go_wp2
      refine bodyPost_ret (results_two rfl _ _ K 57 _ _ rfl HF3.out Try.underlying57 rfl (by kernel_rfl)) rfl ?_
      exact HF.out
    · have N2 : Hid (∀ wx, Only (fun _ => False) wa wx → Calls Try.prog 106 #[.slice A2 n2 c2] wx (NewNo wx 10)) := Lib.hid fun wx ho => new_bad A2 n2 c2 _ 10 wx (by have := check_yes A2 n2 c2 _ lb wx (s2 wx ho) hn2 l2 hlb.low; rw [k2] at this; exact this) (by decide)
      have FIN : Hid (∀ w2 w3, Only (fun _ => False) wa w2 → Only (fun _ => False) w2 w3 → NewC w la lb (.returned (.tuple #[.agg #[.pointer none, .pointer none], .int .i64 10])) ((w3.setCell ⟨K, 0, none⟩ (.pointer none)).setCell ⟨K, 1, none⟩ (.pointer none)) ∧ Is w3 K 57 [.pointer none, .pointer none] ∧ Is ((w3.setCell ⟨K, 0, none⟩ (.pointer none)).setCell ⟨K, 1, none⟩ (.pointer none)) K 57 [.pointer none, .pointer none]) := Lib.hid fun w2 w3 o1 o2 => by
        have oo := hoa.trans (o1.trans o2)
        have ow : Only (· = K) w3 ((w3.setCell ⟨K, 0, none⟩ (.pointer none)).setCell ⟨K, 1, none⟩ (.pointer none)) := (Only.one w3 K 0 _).trans (Only.one _ K 1 _)
        have i3 : Is w3 K 57 [.pointer none, .pointer none] := hia.only (o1.trans o2) fun f => f
        refine ⟨⟨oo.andThen ow fun j e => .inr (by omega), ?_⟩, i3, (i3.set 0 _).set 1 _⟩
        rw [if_pos (.inr (by rw [k2]; decide))]
        exact ⟨_, rfl, none, none, rfl⟩
      clear h1 h2 hoa s1 s2 hla hlb k1 k2 l1 l2 hn1 hn2 hia
      go_enter Try.func95, Try.ntmps95
      go_wp2_with fail
      refine N1.out.mono ?_
      rintro e w2 ⟨T1, rfl, t1, o1, q1⟩
      have HO1 := Lib.hid o1
      clear t1 o1 N1
      go_wp2_with fail
      refine (N2.out w2 HO1.out).mono ?_
      rintro e w3 ⟨rfl, o2⟩
      obtain ⟨f1, f2, f3⟩ := FIN.out w2 w3 HO1.out o2
      have HF := Lib.hid f1
      have g0 := f2.cell 0 rfl
      have g1 := f2.cell 1 rfl
      have z0 := f2.frozen 0
      have z1 := f2.frozen 1
      have HF3 := Lib.hid f3
      clear o2 f1 f2 f3 N2 FIN HO1
      go_wp2
      refine bodyPost_ret (results_two rfl _ _ K 57 _ _ rfl HF3.out Try.underlying57 rfl (by kernel_rfl)) rfl ?_
      exact HF.out
  · have N1 : Hid (Calls Try.prog 106 #[.slice A1 n1 c1] wa (NewNo wa 10)) := Lib.hid (new_bad A1 n1 c1 _ 10 wa (by have := check_yes A1 n1 c1 _ la wa (s1 wa (Only.refl _ _)) hn1 l1 hla.low; rw [k1] at this; exact this) (by decide))
    have FIN : Hid (∀ w3, Only (fun _ => False) wa w3 → NewC w la lb (.returned (.tuple #[.agg #[.pointer none, .pointer none], .int .i64 10])) ((w3.setCell ⟨K, 0, none⟩ (.pointer none)).setCell ⟨K, 1, none⟩ (.pointer none)) ∧ Is w3 K 57 [.pointer none, .pointer none] ∧ Is ((w3.setCell ⟨K, 0, none⟩ (.pointer none)).setCell ⟨K, 1, none⟩ (.pointer none)) K 57 [.pointer none, .pointer none]) := Lib.hid fun w3 o1 => by
      have oo := hoa.trans o1
      have ow : Only (· = K) w3 ((w3.setCell ⟨K, 0, none⟩ (.pointer none)).setCell ⟨K, 1, none⟩ (.pointer none)) := (Only.one w3 K 0 _).trans (Only.one _ K 1 _)
      have i3 : Is w3 K 57 [.pointer none, .pointer none] := hia.only o1 fun f => f
      refine ⟨⟨oo.andThen ow fun j e => .inr (by omega), ?_⟩, i3, (i3.set 0 _).set 1 _⟩
      rw [if_pos (.inl (by rw [k1]; decide))]
      exact ⟨_, rfl, none, none, rfl⟩
    clear h1 h2 hoa s1 s2 hla hlb k1 l1 l2 hn1 hn2 hia
    go_enter Try.func95, Try.ntmps95
    go_wp2_with fail
    refine N1.out.mono ?_
    rintro e w3 ⟨rfl, o1⟩
    obtain ⟨f1, f2, f3⟩ := FIN.out w3 o1
    have HF := Lib.hid f1
    have g0 := f2.cell 0 rfl
    have g1 := f2.cell 1 rfl
    have z0 := f2.frozen 0
    have z1 := f2.frozen 1
    have HF3 := Lib.hid f3
    clear o1 f1 f2 f3 N1 FIN
    go_wp2
    refine bodyPost_ret (results_two rfl _ _ K 57 _ _ rfl HF3.out Try.underlying57 rfl (by kernel_rfl)) rfl ?_
    exact HF.out
end Go.Proofs.Ytoclbodmibagpaa

/- Bytes by their bits. -/
namespace Go.Proofs.Ytoclbodmibagpaa
open Go.RowKit

theorem le_at : ∀ (i : Nat) (l : List UInt8), le l / 2 ^ (8 * i) % 2 ^ 8 = (l.getD i 0).toNat
  | _, [] => by simp [le]
  | 0, x :: r => by
    have := x.toNat_lt
    simp [le]
  | i + 1, x :: r => by
    have hx := x.toNat_lt
    have e : (2 : Nat) ^ (8 * (i + 1)) = 256 * 2 ^ (8 * i) := by rw [show 8 * (i + 1) = 8 + 8 * i from by omega, Nat.pow_add]
    have e2 : le (x :: r) / 256 = le r := by simp [le]; omega
    rw [e, ← Nat.div_div_eq_div_mul, e2, le_at i r]
    simp
theorem by8_eq (l : List UInt8) (q : Nat) : ∀ n, q + n ≤ l.length → by8 (bitsOf l) (8 * q) n = (l.drop q).take n
  | 0, _ => by simp [by8]
  | n + 1, h => by
    have hl : q + n < l.length := by omega
    have hd : n < (l.drop q).length := by rw [List.length_drop]; omega
    rw [by8, by8_eq l q n (by omega), List.take_add_one, List.getElem?_drop, List.getElem?_eq_getElem hl]
    have e : nm (bitsOf l) (8 * q + 8 * n) 8 = (l[q + n]).toNat := by
      unfold nm
      rw [le2_bitsOf, ← Nat.mul_add, le_at]
      simp [hl]
    rw [e]
    simp
theorem extract8 (s : ByteArray) (q n : Nat) (h : q + n ≤ s.size) : (s.extract q (q + n)).data.toList = by8 (bitsOf s.data.toList) (8 * q) n := by
  rw [by8_eq _ q n (by simpa using h)]
  simp [ByteArray.data_extract, List.take_drop]
theorem by8_length (B : List UInt8) (a : Nat) : ∀ n, (by8 B a n).length = n
  | 0 => rfl
  | n + 1 => by rw [by8, List.length_append, by8_length B a n]; rfl
theorem xor16 (x : Nat) (h : x < 65536) : x ^^^ 65535 = 65535 - x := by
  have := congrArg BitVec.toNat (BitVec.xor_allOnes (x := BitVec.ofNat 16 x))
  rw [BitVec.toNat_xor, BitVec.toNat_allOnes, BitVec.toNat_not, BitVec.toNat_ofNat, Nat.mod_eq_of_lt (by omega)] at this
  exact this
theorem xor_u32 (x : Nat) (h : x < 65536) : bits .xor .u32 (x : Int) 65535 = ((65535 - x : Nat) : Int) := by
  unfold bits
  show IntKind.u32.wrap (((BitVec.ofInt 32 (x : Int) ^^^ BitVec.ofInt 32 (65535 : Int)).toNat : Nat) : Int) = _
  have e1 : (BitVec.ofInt 32 (x : Int)).toNat = x := by simp; omega
  have e2 : (BitVec.ofInt 32 (65535 : Int)).toNat = 65535 := by decide
  rw [BitVec.toNat_xor, e1, e2, xor16 x h, IntKind.wrap_u32']
  omega
theorem up8_le (a z : Nat) (h : a ≤ 8 * z) : up8 a ≤ 8 * z ∧ a ≤ up8 a := by unfold up8; omega
end Go.Proofs.Ytoclbodmibagpaa

/- Layer 8, the program: a block's head, and a block whose bytes stand as they are. -/
namespace Go.Proofs.Ytoclbodmibagpaa
open Go.RowKit

/-- Two numbers of bits, one behind the other. -/
theorem two_bits (s : ByteArray) (a n m : Nat) (ha : a ≤ 8 * s.size) (hn : n ≤ 32) (hm : m ≤ 32) : ∃ v1 b1 f1 v2 b2 f2, rBits s a false n = (v1, b1, f1) ∧ rBits s b1 f1 m = (v2, b2, f2) ∧ b1 ≤ 8 * s.size ∧ b2 ≤ 8 * s.size ∧ v1 < 4294967296 ∧ v2 < 4294967296 ∧ (f2 = true ↔ 8 * s.size < a + n + m) ∧
    (f2 = false → v1 = nm (bitsOf s.data.toList) a n ∧ v2 = nm (bitsOf s.data.toList) (a + n) m ∧ b2 = a + n + m) := by
  have lt32 : ∀ a k, k ≤ 32 → le s.data.toList / 2 ^ a % 2 ^ k < 4294967296 := fun a k hk => Nat.lt_of_lt_of_le (Nat.mod_lt _ (Nat.pow_pos (by decide))) (Nat.pow_le_pow_right (n := 2) (j := 32) (by decide) hk)
  by_cases h1 : 8 * s.size < a + n
  · have e1 : rBits s a false n = (0, a, true) := by unfold rBits; rw [if_pos (by simp [short]; omega)]
    have e2 : rBits s a true m = (0, a, true) := by unfold rBits; rw [if_pos (by simp [short])]
    exact ⟨0, a, true, 0, a, true, e1, e2, ha, ha, by decide, by decide, ⟨fun _ => by omega, fun _ => rfl⟩, fun h => by cases h⟩
  · have e1 : rBits s a false n = (le s.data.toList / 2 ^ a % 2 ^ n, a + n, false) := by unfold rBits; rw [if_neg (by simp [short]; omega)]; rfl
    by_cases h2 : 8 * s.size < a + n + m
    · have e2 : rBits s (a + n) false m = (0, a + n, true) := by unfold rBits; rw [if_pos (by simp [short]; omega)]
      exact ⟨_, _, _, _, _, _, e1, e2, by omega, by omega, lt32 a n hn, by decide, ⟨fun _ => h2, fun _ => rfl⟩, fun h => by cases h⟩
    · have e2 : rBits s (a + n) false m = (le s.data.toList / 2 ^ (a + n) % 2 ^ m, a + n + m, false) := by unfold rBits; rw [if_neg (by simp [short]; omega)]; rfl
      exact ⟨_, _, _, _, _, _, e1, e2, by omega, by omega, lt32 a n hn, lt32 (a + n) m hm, ⟨fun h => (by cases h), fun h => (by omega)⟩, fun _ => ⟨nm_of s a n, nm_of s (a + n) m, rfl⟩⟩

/-- What a block's head tells. -/
def HeadPost (w : World) (b : Nat) (s : ByteArray) (a : Nat) (e : Ending) (w' : World) : Prop :=
  Only (· = b) w w' ∧ if 8 * s.size < a + 3 then ∃ v1 v2, e = .returned (.tuple #[v1, v2, .int .i64 3]) else
    e = .returned (.tuple #[.bool (decide (nm (bitsOf s.data.toList) a 1 = 1)), .int .i64 (nm (bitsOf s.data.toList) (a + 1) 2 : Nat), .int .i64 0]) ∧ Rd w' b s (a + 3) false

set_option maxRecDepth 20000 in
set_option maxHeartbeats 1000000 in
theorem head (b d : Nat) (s : ByteArray) (a : Nat) (w : World) (hc : w.cell? ⟨d, 0, none⟩ = some (.pointer (some ⟨b, 0, none⟩))) (hbd : d ≠ b) (hr : Rd w b s a false) (hs : s.size ≤ 1073741824) (ha : a ≤ 8 * s.size) :
    Calls Try.prog 39 #[.pointer (some ⟨d, 0, none⟩)] w (HeadPost w b s a) := by
  obtain ⟨v1, b1, f1, v2, b2, f2, e1, e2, k1, k2, l1, l2, k3, k4⟩ := two_bits s a 1 2 ha (by decide) (by decide)
  have H1 := Lib.hid (rdBits b s a false 1 w hr hs ha)
  rw [show (1 : Int) = ((1 : Nat) : Int) from rfl, e1] at H1
  have H2 : Hid (∀ w2, Rd w2 b s b1 f1 → Calls Try.prog 60 #[.pointer (some ⟨b, 0, none⟩), .int .i64 2] w2 (AtPost b s b2 f2 w2 (.int .u32 v2))) := Lib.hid fun w2 h2 => by
    have := rdBits b s b1 f1 2 w2 h2 hs k1
    rw [show (2 : Int) = ((2 : Nat) : Int) from rfl, e2] at this
    exact this
  have HK : Hid (∀ w2, Only (· = b) w w2 → w2.cell? ⟨d, 0, none⟩ = some (.pointer (some ⟨b, 0, none⟩))) := Lib.hid fun w2 ho => ho.cell hc hbd
  have HD : Hid (∀ w2, Only (· = b) w w2 → Rd w2 b s b2 f2 → HeadPost w b s a (.returned (.tuple #[.bool (decide (v1 = 1)), .int .i64 v2, .int .i64 (errOf f2)])) w2) := Lib.hid fun w2 ho hr2 => by
    refine ⟨ho, ?_⟩
    cases f2 with
    | true => rw [if_pos (by have := k3.1 rfl; omega)]; exact ⟨_, _, rfl⟩
    | false =>
      obtain ⟨rfl, rfl, rfl⟩ := k4 rfl
      rw [if_neg (fun h => by have := k3.2 (by omega); cases this)]
      exact ⟨rfl, hr2⟩
  have q1 : (v1 : Int) < 4294967296 := by omega
  have q2 : (v2 : Int) < 4294967296 := by omega
  have hb1 : ((v1 : Int) == 1) = decide (v1 = 1) := by rw [Bool.eq_iff_iff]; simp; omega
  have hb2 : decide ((v1 : Int) = 1) = decide (v1 = 1) := by rw [Bool.eq_iff_iff]; simp; omega
  obtain ⟨Z, hZ⟩ : ∃ Z, decide (v1 = 1) = Z := ⟨_, rfl⟩
  rw [hZ] at HD hb1 hb2
  clear hr e1 e2 k3 k4 l1 l2 hZ
  go_enter Try.func39, Try.ntmps39
  go_wp2_with fail
  refine H1.out.mono ?_
  rintro e w2 ⟨rfl, hr2, ho2⟩
  have c2 := HK.out w2 ho2
  have HR2 := Lib.hid hr2
  have HO2 := Lib.hid ho2
  clear hr2 ho2 hc H1
  go_wp2_with fail
  refine (H2.out w2 HR2.out).mono ?_
  rintro e w3 ⟨rfl, hr3, ho3⟩
  have HO3 := Lib.hid (HO2.out.trans ho3)
  have c3 := HK.out w3 HO3.out
  have HR3 := Lib.hid hr3
  have HF := Lib.hid (HD.out w3 HO3.out hr3)
  clear hr3 ho3 c2 H2 HD HK
  go_wp2_with fail
  refine (err b s b2 f2 w3 HR3.out).mono ?_
  rintro e w4 ⟨rfl, rfl⟩
  go_wp2
  go_ret3
  exact HF.out

set_option maxRecDepth 100000 in
set_option maxHeartbeats 4000000 in
theorem istored (b d : Nat) (s : ByteArray) (a : Nat) (most : Int) (A : Option Addr) (n c : Nat) (kv p1 p2 : Value) (out : List UInt8) (w : World) (h : Str w b d most A n c kv p1 p2 out) (hr : Rd w b s a false)
    (hs : s.size ≤ 1073741824) (ha : a ≤ 8 * s.size) (hn : n ≤ 100000) :
    Calls Try.prog 62 #[.pointer (some ⟨d, 0, none⟩)] w (Done w b d s most A kv p1 p2 (mStored (bitsOf s.data.toList) most a out)) := by
  have H0 := Lib.hid (align b s a false w hr hs ha)
  obtain ⟨u1, u2⟩ := up8_le a s.size ha
  have eu : (if false = true then a else (a + 7) / 8 * 8) = up8 a := rfl
  rw [eu] at H0
  unfold mStored
  rw [bits_len, h.len]
  have u3 : ∃ q, up8 a = 8 * q := ⟨(a + 7) / 8, by unfold up8; omega⟩
  obtain ⟨z, hz⟩ : ∃ z, up8 a = z := ⟨_, rfl⟩
  rw [hz] at H0 u1 u3 ⊢
  obtain ⟨R, hR⟩ : ∃ R, (if 8 * s.size < z + 32 then ((3 : Nat), a, out) else if nm (bitsOf s.data.toList) z 16 + nm (bitsOf s.data.toList) (z + 16) 16 ≠ 65535 then (2, a, out) else if most < (n : Int) + nm (bitsOf s.data.toList) z 16 then (7, a, out)
    else if 8 * s.size < z + 32 + 8 * nm (bitsOf s.data.toList) z 16 then (3, a, out) else (0, z + 32 + 8 * nm (bitsOf s.data.toList) z 16, out ++ by8 (bitsOf s.data.toList) (z + 32) (nm (bitsOf s.data.toList) z 16))) = R := ⟨_, rfl⟩
  rw [hR]
  clear eu hz u2 hr
  obtain ⟨v1, b1, f1, v2, b2, f2, e1, e2, k1, k2, l1, l2, k3, k4⟩ := two_bits s z 16 16 u1 (by decide) (by decide)
  have H1 : Hid (∀ w2, Rd w2 b s z false → Calls Try.prog 60 #[.pointer (some ⟨b, 0, none⟩), .int .i64 16] w2 (AtPost b s b1 f1 w2 (.int .u32 v1))) := Lib.hid fun w2 h2 => by
    have := rdBits b s z false 16 w2 h2 hs u1
    rw [show (16 : Int) = ((16 : Nat) : Int) from rfl, e1] at this
    exact this
  have H2 : Hid (∀ w2, Rd w2 b s b1 f1 → Calls Try.prog 60 #[.pointer (some ⟨b, 0, none⟩), .int .i64 16] w2 (AtPost b s b2 f2 w2 (.int .u32 v2))) := Lib.hid fun w2 h2 => by
    have := rdBits b s b1 f1 16 w2 h2 hs k1
    rw [show (16 : Int) = ((16 : Nat) : Int) from rfl, e2] at this
    exact this
  have HK : Hid (∀ w2, Only (· = b) w w2 → w2.cell? ⟨d, 0, none⟩ = some (.pointer (some ⟨b, 0, none⟩))) := Lib.hid fun w2 ho => ho.cell h.c0 h.ne
  have HX : Hid (∀ w2, Only (· = b) w w2 → Str w2 b d most A n c kv p1 p2 out) := Lib.hid fun w2 ho => h.read ho
  have c0 := h.c0
  have hne := h.ne
  have hlen := h.len
  have K3 := Lib.hid k3
  have K4 := Lib.hid k4
  have U3 := Lib.hid u3
  have HR := Lib.hid hR
  clear e1 e2 h k3 k4 u3 hR
  go_enter Try.func62, Try.ntmps62
  go_wp2_with fail
  refine H0.out.mono ?_
  rintro e w2 ⟨rfl, hr2, ho2⟩
  have HR2 := Lib.hid hr2
  have HO2 := Lib.hid ho2
  have c2 := HK.out w2 ho2
  clear hr2 ho2 H0 c0
  go_wp2_with fail
  refine Steps.region (fun W => W.cell? ⟨d, 0, none⟩ = some (.pointer (some ⟨b, 0, none⟩))) [(true, 0), (true, 1), (true, 2), (true, 3), (true, 5), (true, 6), (true, 7), (true, 8), (false, 4), (false, 9), (true, 10), (true, 11)] (by kernel_rfl) (by kernel_rfl) rfl (by kernel_rfl) (fun _ _ d _ _ h => by cases d <;> exact h) ?_
  have s2 : w2.drew.cell? ⟨d, 0, none⟩ = some (.pointer (some ⟨b, 0, none⟩)) := c2
  refine Steps.take (.pointer (some ⟨d, 0, none⟩)) rfl s2 (fun _ _ => by kernel_rfl) ?_
  simp only [Act.put, List.setIfInBounds_toArray, List.set_cons_succ, List.set_cons_zero]
  refine Steps.take (.pointer (some ⟨d, 0, none⟩)) rfl s2 (fun _ _ => by kernel_rfl) ?_
  simp only [Act.put, List.setIfInBounds_toArray, List.set_cons_succ, List.set_cons_zero]
  refine Steps.take (.pointer (some ⟨d, 0, none⟩)) rfl s2 (fun _ _ => by kernel_rfl) ?_
  simp only [Act.put, List.setIfInBounds_toArray, List.set_cons_succ, List.set_cons_zero]
  refine Steps.take (.pointer (some ⟨b, 0, none⟩)) rfl s2 (fun _ hW => by go_simp) ?_
  simp only [Act.put, List.setIfInBounds_toArray, List.set_cons_succ, List.set_cons_zero]
  refine Steps.take (.pointer (some ⟨d, 0, none⟩)) rfl s2 (fun _ _ => by kernel_rfl) ?_
  simp only [Act.put, List.setIfInBounds_toArray, List.set_cons_succ, List.set_cons_zero]
  refine Steps.take (.pointer (some ⟨d, 0, none⟩)) rfl s2 (fun _ _ => by kernel_rfl) ?_
  simp only [Act.put, List.setIfInBounds_toArray, List.set_cons_succ, List.set_cons_zero]
  refine Steps.take (.pointer (some ⟨d, 0, none⟩)) rfl s2 (fun _ _ => by kernel_rfl) ?_
  simp only [Act.put, List.setIfInBounds_toArray, List.set_cons_succ, List.set_cons_zero]
  refine Steps.take (.pointer (some ⟨b, 0, none⟩)) rfl s2 (fun _ hW => by go_simp) ?_
  simp only [Act.put, List.setIfInBounds_toArray, List.set_cons_succ, List.set_cons_zero]
  refine Steps.call 60 #[.pointer (some ⟨b, 0, none⟩), .int .i64 16] rfl (by kernel_rfl) ((H1.out w2.drew HR2.out.drew).mono ?_)
  rintro e w3 ⟨rfl, hr3, ho3⟩
  have ho3' : Only (· = b) w w3 := (HO2.out.drew).trans ho3
  refine ⟨_, rfl, HK.out w3 ho3', ?_⟩
  simp only [Act.put, List.setIfInBounds_toArray, List.set_cons_succ, List.set_cons_zero]
  refine Steps.call 60 #[.pointer (some ⟨b, 0, none⟩), .int .i64 16] rfl (by kernel_rfl) ((H2.out w3 hr3).mono ?_)
  rintro e w4 ⟨rfl, hr4, ho4⟩
  have ho4' : Only (· = b) w w4 := ho3'.trans ho4
  have s4 := HK.out w4 ho4'
  refine ⟨_, rfl, s4, ?_⟩
  simp only [Act.put, List.setIfInBounds_toArray, List.set_cons_succ, List.set_cons_zero]
  refine Steps.take (.int .u32 v1) rfl s4 (fun _ _ => by kernel_rfl) ?_
  simp only [Act.put, List.setIfInBounds_toArray, List.set_cons_succ, List.set_cons_zero]
  refine Steps.take (.int .u32 v2) rfl s4 (fun _ _ => by kernel_rfl) ?_
  simp only [Act.put, List.setIfInBounds_toArray, List.set_cons_succ, List.set_cons_zero]
  show wpList _ _ _ _ _ _
  have HR4 := Lib.hid hr4
  have HO4 := Lib.hid ho4'
  clear hr4 ho4 ho4' hr3 ho3 ho3' s2 c2 H1 H2 HR2 HO2
  go_wp2_with fail
  refine (err b s b2 f2 w4 HR4.out).mono ?_
  rintro e w5 ⟨rfl, rfl⟩
  cases f2 with
  | true =>
    have hR := HR.out
    rw [if_pos (by have := K3.out.1 rfl; omega)] at hR
    have HR2 := Lib.hid hR
    clear K3 K4 hR HR
    go_wp2
    go_ret
    rw [← HR2.out]
    exact ⟨rfl, HO4.out.mono fun _ e => .inl e, fun h => by cases h⟩
  | false =>
    have hin : ¬ 8 * s.size < z + 32 := fun h => by have := K3.out.2 (by omega); cases this
    have hR := HR.out
    rw [if_neg hin] at hR
    obtain ⟨g1, g2, rfl⟩ := K4.out rfl
    rw [show z + 16 + 16 = z + 32 from by omega] at HR4
    rw [← g1, ← g2] at hR
    have lt1 : v1 < 65536 := by rw [g1]; exact nm_lt _ _ 16
    have lt2 : v2 < 65536 := by rw [g2]; exact nm_lt _ _ 16
    have hxor := xor_u32 v2 lt2
    clear K3 K4 g1 g2 k1 k2 l1 l2 HR
    by_cases hne2 : v1 + v2 ≠ 65535
    · rw [if_pos hne2] at hR
      have HR2 := Lib.hid hR
      clear hR
      have hne3 : ¬ (v1 : Int) = ((65535 - v2 : Nat) : Int) := by omega
      obtain ⟨x, hx⟩ : ∃ x, 65535 - v2 = x := ⟨_, rfl⟩
      rw [hx] at hxor hne3
      clear hne2 hx
      go_wp2
      go_ret
      rw [← HR2.out]
      exact ⟨rfl, HO4.out.mono fun _ e => .inl e, fun h => by cases h⟩
    · rw [if_neg hne2] at hR
      have hx : 65535 - v2 = v1 := by omega
      rw [hx] at hxor
      have HLT := Lib.hid lt1
      have q1 : (v1 : Int) ≤ 100000 := by omega
      clear lt1 lt2
      by_cases hroom : most < (n : Int) + v1
      · rw [if_pos hroom] at hR
        have HR2 := Lib.hid hR
        clear hR
        have HT := Lib.hid (tooMany b d most A n c kv p1 p2 out v1 w4 true (HX.out w4 HO4.out) (by omega) (by omega) (by simpa using hroom))
        clear hne2 hx hroom hin
        go_wp2_with fail
        refine HT.out.mono ?_
        rintro e w5 ⟨rfl, k, rfl⟩
        go_wp2
        go_ret
        rw [← HR2.out]
        exact ⟨rfl, (HO4.out.mono fun _ e => .inl e).drewN k, fun h => by cases h⟩
      · rw [if_neg hroom] at hR
        have HR2 := Lib.hid hR
        clear hR
        have HT := Lib.hid (tooMany b d most A n c kv p1 p2 out v1 w4 false (HX.out w4 HO4.out) (by omega) (by omega) (by simpa using hroom))
        have hv : v1 ≤ 100000 := by omega
        clear hne2 hx hroom
        go_wp2_with fail
        refine HT.out.mono ?_
        rintro e w5 ⟨rfl, k, rfl⟩
        have HX5 : Hid (Str (w4.drewN k) b d most A n c kv p1 p2 out) := Lib.hid ((HX.out w4 HO4.out).new ((Only.refl _ w4).drewN k))
        have HR5 : Hid (Rd (w4.drewN k) b s (z + 32) false) := Lib.hid (HR4.out.drewN k)
        have HO5 : Hid (Only (· = b) w (w4.drewN k)) := Lib.hid (HO4.out.drewN k)
        obtain ⟨w5, hw5⟩ : ∃ w5, w4.drewN k = w5 := ⟨_, rfl⟩
        rw [hw5] at HX5 HR5 HO5 ⊢
        clear hw5 HT HX HK HR4 HO4 s4
        -- the bytes
        have hby := rdBytes b s (z + 32) false v1 w5.drew HR5.out.drew hs (by omega)
        have hmod : ∃ t b3 f3, rBytes s (z + 32) false v1 = (t, b3, f3) ∧ t.size ≤ 100000 ∧ (if f3 then 8 * s.size < z + 32 + 8 * v1 else ¬ 8 * s.size < z + 32 + 8 * v1 ∧ b3 = z + 32 + 8 * v1 ∧ t.data.toList = by8 (bitsOf s.data.toList) (z + 32) v1) := by
          obtain ⟨q, rfl⟩ := U3.out
          have hq : (8 * q + 32 + 7) / 8 = q + 4 := by omega
          unfold rBytes
          by_cases hlk : lacks s (8 * q + 32) false v1 = true
          · rw [if_pos hlk]
            refine ⟨_, _, _, rfl, by simp, ?_⟩
            simp only [lacks, hq] at hlk
            simp at hlk ⊢
            omega
          · rw [if_neg hlk, hq]
            simp only [lacks, hq] at hlk
            simp at hlk
            refine ⟨_, _, _, rfl, by simp; omega, ?_⟩
            rw [if_neg (by simp)]
            refine ⟨by omega, by simp; omega, ?_⟩
            rw [Int.toNat_natCast, extract8 s (q + 4) v1 (by omega), show 8 * q + 32 = 8 * (q + 4) from by omega]
        obtain ⟨t, b3, f3, hrb, ht, hf3⟩ := hmod
        rw [hrb] at hby
        have HBY := Lib.hid hby
        have HFN : Hid (∀ w6 A9 c9 w9, Rd w6 b s b3 f3 → Only (· = b) w5.drew w6 → Row 5 w9 A9 (n + t.size) c9 (bcells out ++ bcells t.data.toList) → Only (Lies A) w6 w9 → (A9 = A ∨ A9 = some ⟨w6.heap.size, 0, none⟩) →
            (Rd (w9.setCell ⟨d, 2, none⟩ (.slice A9 (n + t.size) c9)) b s b3 f3 ∧ (w9.setCell ⟨d, 2, none⟩ (.slice A9 (n + t.size) c9)).cell? ⟨d, 0, none⟩ = some (.pointer (some ⟨b, 0, none⟩)) ∧
            Done w b d s most A kv p1 p2 R (.returned (.int .i64 (errOf f3))) (w9.setCell ⟨d, 2, none⟩ (.slice A9 (n + t.size) c9))) ∧ w9.cell? ⟨d, 2, none⟩ = some (.slice A n c) ∧ w9.frozen? ⟨d, 2, none⟩ = false ∧ w9.cell? ⟨d, 0, none⟩ = some (.pointer (some ⟨b, 0, none⟩))) := Lib.hid fun w6 A9 c9 w9 r0 o6 r1 r2 r3 => by
          have g6 := (HX5.out.new ((Only.refl _ w5).drew)).read o6
          have hap : bcells out ++ bcells t.data.toList = bcells (out ++ t.data.toList) := by simp [bcells]
          rw [hap] at r1
          obtain ⟨f1, f2, f3'⟩ := g6.append r0.lt r1 (by simp) r2 r3
          have hrd : Rd (w9.setCell ⟨d, 2, none⟩ (.slice A9 (n + t.size) c9)) b s b3 f3 := r0.only f2 (by
            rintro (e | e)
            · exact g6.ne e.symm
            · exact g6.nb e)
          have i9 := g6.is.only r2 g6.nd
          have hon : Only (Mine b d A) w (w9.setCell ⟨d, 2, none⟩ (.slice A9 (n + t.size) c9)) := ((((HO5.out.drew).trans o6).mono fun _ e => .inl e).trans (f2.mono fun _ e => .inr e))
          refine ⟨⟨hrd, f1.c0, ?_⟩, i9.cell 2 rfl, i9.frozen 2, i9.cell 0 rfl⟩
          rw [← HR2.out]
          cases f3 with
          | true =>
            rw [if_pos rfl] at hf3
            rw [if_pos hf3]
            exact ⟨rfl, hon, fun h => by cases h⟩
          | false =>
            rw [if_neg (by simp)] at hf3
            rw [if_neg hf3.1]
            refine ⟨rfl, hon, fun _ => ⟨A9, c9, ?_, ?_, fun j hj => (f3' j hj).imp id fun x => Nat.le_trans ((HO5.out.drew).trans o6).size x⟩⟩
            · have e : (out ++ by8 (bitsOf s.data.toList) (z + 32) v1).length = n + t.size := by
                rw [← hf3.2.2, List.length_append, hlen]
                simp
              rw [e, ← hf3.2.2]
              exact f1
            · rw [← hf3.2.1]
              exact hrd
        have HCL : Hid (∀ w6, Only (· = b) w5.drew w6 → w6.cell? ⟨d, 2, none⟩ = some (.slice A n c) ∧ w6.cell? ⟨d, 0, none⟩ = some (.pointer (some ⟨b, 0, none⟩)) ∧ Row 5 w6 A n c (bcells out)) := Lib.hid fun w6 o6 => by
          have g6 := (HX5.out.new ((Only.refl _ w5).drew)).read o6
          exact ⟨g6.is.cell 2 rfl, g6.c0, g6.row⟩
        have d2 := HX5.out.is.cell 2 rfl
        have d0 := HX5.out.c0
        have ew : IntKind.i64.wrap (v1 : Int) = (v1 : Int) := IntWalk.i64_in _ (by omega)
        have B1 : (1 : Nat) ≤ 8 := by decide
        have B2 : n + t.size ≤ 1099511627776 := by omega
        have ht2 : (bcells t.data.toList).length = t.size := by simp [bcells]
        clear hby hrb hf3 HX5 HR5 HO5 U3 hlen
        go_wp2_with fail
        go_region_law (first
          | (go_simp
             go_at_call 91
             refine HBY.out.mono ?_
             rintro e w6 ⟨rfl, hr6, ho6⟩
             obtain ⟨m1, m2, m3⟩ := HCL.out w6 ho6
             have HR6 := Lib.hid hr6
             have HO6 := Lib.hid ho6
             have HM3 := Lib.hid m3
             clear hr6 ho6 m3)
          | (refine step_append_row (by rfl) (.tmp 41) (.tmp 48) 40 9 5 (by rfl) Try.underlying40 info5 A n c t.size (bcells out) (bcells t.data.toList) (.string t) (by rfl) (by rfl) HM3.out ht2 (Src.text Try.underlying9 w6 t) B1 B2 ?_
             intro A9 c9 w9 hrow9 honly9 hlies9
             obtain ⟨H9, k1', k2', k3'⟩ := HFN.out w6 A9 c9 w9 HR6.out HO6.out hrow9 honly9 hlies9
             have H9 := Lib.hid H9
             clear hrow9 honly9 hlies9))
        all_goals
          obtain ⟨h91, h92, h93⟩ := H9.out
          have H91 := Lib.hid h91
          have H93 := Lib.hid h93
          clear h91 h93 H9
          go_wp2_with fail
          refine (err b s b3 f3 _ H91.out).mono ?_
          rintro e w10 ⟨rfl, rfl⟩
          go_wp2
          go_ret
          exact H93.out
end Go.Proofs.Ytoclbodmibagpaa
