/- Layer 8, the program: symbols up to a block's end. -/
import Derived.Test.YtackcgiokkbhdaaDoorSeveral
namespace Go.Proofs.YtackcgiokkbhdaaDoor
open Go.RowKit

/-- Two tables; all that they lead to lies from lo up to hi. -/
structure Cods (w : World) (lo hi T1 T2 : Nat) (la lb : List Nat) : Prop where
  t1 : Tab w lo T1 la
  t2 : Tab w lo T2 lb
  h1 : T1 ≤ hi
  h2 : T2 ≤ hi
  hh : hi < w.heap.size
/-- Lengths that make a code of symbols. -/
structure Lens (la : List Nat) : Prop where
  low : Low la
  len : la.length ≤ 288
theorem Cods.keep {w w' : World} {lo hi T1 T2 : Nat} {la lb : List Nat} {X : Nat → Prop} (h : Cods w lo hi T1 T2 la lb) (k : Only X w w') (hd : ∀ j, lo ≤ j → j ≤ hi → ¬ X j) : Cods w' lo hi T1 T2 la lb :=
  ⟨h.t1.keep k fun j a b => hd j a (Nat.le_trans b h.h1), h.t2.keep k fun j a b => hd j a (Nat.le_trans b h.h2), h.h1, h.h2, Nat.lt_of_lt_of_le h.hh k.size⟩

/-- Where reading symbols stands. -/
structure CAt (w : World) (b d : Nat) (s : ByteArray) (most : Int) (A : Option Addr) (kv p1 p2 : Value) (lo hi T1 T2 : Nat) (la lb : List Nat) (K a : Nat) (A' : Option Addr) (n c : Nat) (out : List UInt8) (wx : World) : Prop where
  str : Str wx b d most A' n c kv p1 p2 out
  rd : Rd wx b s a false
  only : Only (Mine b d A) w wx
  lies : ∀ j, Lies A' j → Lies A j ∨ w.heap.size ≤ j
  cods : Cods wx lo hi T1 T2 la lb
  box : Is wx K 51 [.pointer (some ⟨T1, 0, none⟩), .pointer (some ⟨T2, 0, none⟩)]
  far : ∀ j, lo ≤ j → j ≤ hi → ¬ Mine b d A' j
  nK : ¬ Mine b d A' K

section
variable {w wx wy : World} {b d : Nat} {s : ByteArray} {most : Int} {A A' : Option Addr} {kv p1 p2 : Value} {lo hi T1 T2 : Nat} {la lb : List Nat} {K a n c : Nat} {out : List UInt8}
theorem CAt.read (h : CAt w b d s most A kv p1 p2 lo hi T1 T2 la lb K a A' n c out wx) (k : Only (· = b) wx wy) {a2 : Nat} (hr : Rd wy b s a2 false) : CAt w b d s most A kv p1 p2 lo hi T1 T2 la lb K a2 A' n c out wy :=
  ⟨h.str.read k, hr, h.only.trans (k.mono fun _ e => .inl e), h.lies, h.cods.keep k fun j h1 h2 e => h.far j h1 h2 (.inl e), h.box.only k fun e => h.nK (.inl e), h.far, h.nK⟩
theorem CAt.next (h : CAt w b d s most A kv p1 p2 lo hi T1 T2 la lb K a A' n c out wx) {r : Ans} {e : Ending} (hd : Done wx b d s most A' kv p1 p2 r e wy) (h0 : r.1 = 0) : ∃ A2 c2, CAt w b d s most A kv p1 p2 lo hi T1 T2 la lb K r.2.1 A2 r.2.2.length c2 r.2.2 wy := by
  obtain ⟨_, ho, hk⟩ := hd
  obtain ⟨A2, c2, g1, g2, g3⟩ := hk h0
  have hK := h.box.lt
  have hhi := h.cods.hh
  have far2 : ∀ j, j < wx.heap.size → ¬ Mine b d A' j → ¬ Mine b d A2 j := by
    rintro j hj hm (e | e | e)
    · exact hm (.inl e)
    · exact hm (.inr (.inl e))
    · exact (g3 j e).elim (fun x => hm (.inr (.inr x))) (fun x => by omega)
  refine ⟨A2, c2, g1, g2, h.only.andThen ho ?_, fun j hj => ?_, h.cods.keep ho h.far, h.box.only ho h.nK, fun j h1 h2 => far2 j (by omega) (h.far j h1 h2), far2 K hK h.nK⟩
  · rintro j (e | e | e)
    · exact .inl (.inl e)
    · exact .inl (.inr (.inl e))
    · exact (h.lies j e).imp (fun x => .inr (.inr x)) id
  · exact (g3 j hj).elim (h.lies j) fun x => .inr (Nat.le_trans h.only.size x)
theorem CAt.bad (h : CAt w b d s most A kv p1 p2 lo hi T1 T2 la lb K a A' n c out wx) {r : Ans} {e : Ending} (hd : Done wx b d s most A' kv p1 p2 r e wy) : Only (Mine b d A) w wy := by
  refine h.only.andThen hd.2.1 ?_
  rintro j (e | e | e)
  · exact .inl (.inl e)
  · exact .inl (.inr (.inl e))
  · exact (h.lies j e).imp (fun x => .inr (.inr x)) id
theorem CAt.done (h : CAt w b d s most A kv p1 p2 lo hi T1 T2 la lb K a A' n c out wx) {r : Ans} (hr : r = (0, a, out)) : Done w b d s most A kv p1 p2 r (.returned (.int .i64 0)) wx := by
  subst hr
  exact ⟨rfl, h.only, fun _ => ⟨A', c, by rw [h.str.len]; exact h.str, h.rd, h.lies⟩⟩
end

theorem mCoded_step (B : List UInt8) (la lb : List Nat) (most : Int) (f a : Nat) (out : List UInt8) : mCoded B la lb most (f + 1) a out =
    if (rdp la B a).2.2 ≠ 0 then ((rdp la B a).2.2, a, out)
    else if (rdp la B a).1 = 256 then (0, (rdp la B a).2.1, out)
    else if (rdp la B a).1 < 256 then (if most < out.length + 1 then (7, a, out) else mCoded B la lb most f (rdp la B a).2.1 (out ++ [UInt8.ofNat (rdp la B a).1]))
    else if (mBack B lb most (rdp la B a).1 (rdp la B a).2.1 out).1 ≠ 0 then mBack B lb most (rdp la B a).1 (rdp la B a).2.1 out
    else mCoded B la lb most f (mBack B lb most (rdp la B a).1 (rdp la B a).2.1 out).2.1 (mBack B lb most (rdp la B a).1 (rdp la B a).2.1 out).2.2 := rfl

set_option maxRecDepth 100000 in
set_option maxHeartbeats 4000000 in
theorem coded (b d lo hi T1 T2 : Nat) (s : ByteArray) (a : Nat) (most : Int) (A : Option Addr) (n c : Nat) (kv p1 p2 : Value) (out : List UInt8) (la lb : List Nat) (w : World) (h : Str w b d most A n c kv p1 p2 out) (hr : Rd w b s a false) (hT : Cods w lo hi T1 T2 la lb) (hbl : b < lo)
    (far : ∀ j, lo ≤ j → j ≤ hi → ¬ Mine b d A j) (hla : Lens la) (hlb : Lens lb) (hs : s.size ≤ 1073741824) (ha : a ≤ 8 * s.size) (hn : n ≤ 100000) (hmost : most ≤ 100000) :
    Calls Tryd.prog 41 #[.pointer (some ⟨d, 0, none⟩), .agg #[.pointer (some ⟨T1, 0, none⟩), .pointer (some ⟨T2, 0, none⟩)]] w (Done w b d s most A kv p1 p2 (mCoded (bitsOf s.data.toList) la lb most (8 * s.size + 1) a out)) := by
  obtain ⟨r, hr0⟩ : ∃ r, mCoded (bitsOf s.data.toList) la lb most (8 * s.size + 1) a out = r := ⟨_, rfl⟩
  rw [hr0]
  have hok : Only (fun _ => False) w (w.alloc (.cells #[.pointer (some ⟨T1, 0, none⟩), .pointer (some ⟨T2, 0, none⟩)] 51)) := (Only.refl _ w).alloc _
  have hst : CAt w b d s most A kv p1 p2 lo hi T1 T2 la lb w.heap.size a A n c out (w.alloc (.cells #[.pointer (some ⟨T1, 0, none⟩), .pointer (some ⟨T2, 0, none⟩)] 51)) :=
    ⟨h.new hok, hr.only hok fun f => f, hok.mono fun _ f => f.elim, fun j hj => .inl hj, hT.keep hok fun _ _ _ f => f, Is.new w 51 _, far, by
      have q1 := h.is.lt
      have q2 := hr.lt
      have q3 := h.row.lies
      rintro (e | e | e)
      · omega
      · omega
      · exact Nat.lt_irrefl _ (q3 _ e)⟩
  obtain ⟨wa, hwa⟩ : ∃ wa, w.alloc (.cells #[.pointer (some ⟨T1, 0, none⟩), .pointer (some ⟨T2, 0, none⟩)] 51) = wa := ⟨_, rfl⟩
  rw [hwa] at hst
  obtain ⟨K, hK⟩ : ∃ K, w.heap.size = K := ⟨_, rfl⟩
  rw [hK] at hst
  have HST := Lib.hid hst
  have HM : Hid (∀ (f a : Nat) (out : List UInt8), 8 * s.size < a + f → ∃ g, f = g + 1 ∨ 8 * s.size < a) := Lib.hid fun f a out h => ⟨f - 1, by omega⟩
  have HR0 := Lib.hid hr0
  have HLA := Lib.hid hla
  have HLB := Lib.hid hlb
  clear hst h hr hT far hok hr0 hla hlb HM
  go_enter Tryd.func41, Tryd.ntmps41
  go_wp2_with fail
  go_loopg [5, 6] (8 * s.size + 1) (fun gk u v wx => ∃ (a : Nat) (A' : Option Addr) (n c : Nat) (out : List UInt8), a ≤ 8 * s.size ∧ 8 * s.size < a + gk ∧ n ≤ 100000 ∧ Hid (CAt w b d s most A kv p1 p2 lo hi T1 T2 la lb K a A' n c out wx) ∧ Hid (mCoded (bitsOf s.data.toList) la lb most gk a out = r))
  case atStart => exact ⟨a, A, n, c, out, ha, by omega, hn, HST, HR0⟩
  case round =>
    clear HST HR0 hwa hK hn ha
    obtain ⟨a, A', n, c, out, ha, hgk, hn, HC, HR0⟩ := hrel
    obtain ⟨f, rfl⟩ : ∃ f, gk = f + 1 := ⟨gk - 1, by omega⟩
    have hm := HR0.out
    rw [mCoded_step] at hm
    have HC1 := HC.out
    have HRD := Lib.hid (tread lo T1 b s la a wr.drew (HC1.cods.t1.new ((Only.refl _ wr).drew)) HC1.rd.drew hbl HLA.out.low HLA.out.len hs ha)
    have hmv := rdp_moves la (bitsOf s.data.toList) a
    have hsy := rdp_symbol la (bitsOf s.data.toList) a HLA.out.len
    rw [bits_len] at hmv
    obtain ⟨⟨y, a2, x⟩, hq⟩ : ∃ q, rdp la (bitsOf s.data.toList) a = q := ⟨_, rfl⟩
    rw [hq] at HRD hm hmv hsy
    simp only at hm hmv hsy
    have d0 := HC1.str.c0
    have k0 := HC1.box.cell 0 rfl
    have hSS : wr.drew.cell? ⟨K, 0, none⟩ = some (.pointer (some ⟨T1, 0, none⟩)) ∧ wr.drew.cell? ⟨d, 0, none⟩ = some (.pointer (some ⟨b, 0, none⟩)) := ⟨k0, d0⟩
    have HSS := Lib.hid hSS
    have HSK : Hid (∀ w2, Only (· = b) wr.drew w2 → w2.cell? ⟨K, 0, none⟩ = some (.pointer (some ⟨T1, 0, none⟩)) ∧ w2.cell? ⟨d, 0, none⟩ = some (.pointer (some ⟨b, 0, none⟩))) := Lib.hid fun w2 ho => ⟨ho.cell k0 fun e => HC1.nK (.inl e), ho.cell d0 HC1.str.ne⟩
    have HCD : Hid (∀ w2 a2, Only (· = b) wr.drew w2 → Rd w2 b s a2 false → CAt w b d s most A kv p1 p2 lo hi T1 T2 la lb K a2 A' n c out w2) := Lib.hid fun w2 a2 ho hr2 => HC1.read (((Only.refl (· = b) wr).drew).trans ho) hr2
    have HOD : Hid (∀ w2, Only (· = b) wr.drew w2 → Only (Mine b d A) w w2) := Lib.hid fun w2 ho => (HC1.only.drew).trans (ho.mono fun _ e => .inl e)
    clear HC1 hq hSS d0 k0 HC HR0
    go_wp2_with fail
    refine Steps.region (fun W => W.cell? ⟨K, 0, none⟩ = some (.pointer (some ⟨T1, 0, none⟩)) ∧ W.cell? ⟨d, 0, none⟩ = some (.pointer (some ⟨b, 0, none⟩))) [(true, 0), (true, 1), (true, 2), (true, 3), (true, 4), (true, 5), (false, 6), (true, 7), (true, 8), (true, 9), (true, 10), (true, 11)] (by kernel_rfl) (by kernel_rfl) rfl (by kernel_rfl) (fun _ _ d _ _ h => by cases d <;> exact h) ?_
    refine Steps.take (.pointer (some ⟨K, 0, none⟩)) rfl HSS.out (fun _ _ => by kernel_rfl) ?_
    simp only [Act.put, List.setIfInBounds_toArray, List.set_cons_succ, List.set_cons_zero]
    refine Steps.take (.pointer (some ⟨T1, 0, none⟩)) rfl HSS.out (fun _ hW => by obtain ⟨hw1, hw2⟩ := hW; go_simp) ?_
    simp only [Act.put, List.setIfInBounds_toArray, List.set_cons_succ, List.set_cons_zero]
    refine Steps.take (.pointer (some ⟨d, 0, none⟩)) rfl HSS.out (fun _ _ => by kernel_rfl) ?_
    simp only [Act.put, List.setIfInBounds_toArray, List.set_cons_succ, List.set_cons_zero]
    refine Steps.take (.pointer (some ⟨d, 0, none⟩)) rfl HSS.out (fun _ _ => by kernel_rfl) ?_
    simp only [Act.put, List.setIfInBounds_toArray, List.set_cons_succ, List.set_cons_zero]
    refine Steps.take (.pointer (some ⟨d, 0, none⟩)) rfl HSS.out (fun _ _ => by kernel_rfl) ?_
    simp only [Act.put, List.setIfInBounds_toArray, List.set_cons_succ, List.set_cons_zero]
    refine Steps.take (.pointer (some ⟨b, 0, none⟩)) rfl HSS.out (fun _ hW => by obtain ⟨hw1, hw2⟩ := hW; go_simp) ?_
    simp only [Act.put, List.setIfInBounds_toArray, List.set_cons_succ, List.set_cons_zero]
    refine Steps.call 55 #[.pointer (some ⟨T1, 0, none⟩), .pointer (some ⟨b, 0, none⟩)] rfl (by kernel_rfl) (HRD.out.mono ?_)
    rintro e w2 ⟨rfl, hr2, ho2⟩
    refine ⟨_, rfl, HSK.out w2 ho2, ?_⟩
    simp only [Act.put, List.setIfInBounds_toArray, List.set_cons_succ, List.set_cons_zero]
    refine Steps.take (.tuple #[.int .i64 y, .int .i64 x]) rfl (HSK.out w2 ho2) (fun _ _ => by kernel_rfl) ?_
    simp only [Act.put, List.setIfInBounds_toArray, List.set_cons_succ, List.set_cons_zero]
    refine Steps.take (.int .i64 y) rfl (HSK.out w2 ho2) (fun _ _ => by kernel_rfl) ?_
    simp only [Act.put, List.setIfInBounds_toArray, List.set_cons_succ, List.set_cons_zero]
    refine Steps.take (.int .i64 x) rfl (HSK.out w2 ho2) (fun _ _ => by kernel_rfl) ?_
    simp only [Act.put, List.setIfInBounds_toArray, List.set_cons_succ, List.set_cons_zero]
    refine Steps.take (.int .i64 y) rfl (HSK.out w2 ho2) (fun _ _ => by kernel_rfl) ?_
    simp only [Act.put, List.setIfInBounds_toArray, List.set_cons_succ, List.set_cons_zero]
    refine Steps.take (.int .i64 x) rfl (HSK.out w2 ho2) (fun _ _ => by kernel_rfl) ?_
    simp only [Act.put, List.setIfInBounds_toArray, List.set_cons_succ, List.set_cons_zero]
    show wpList _ _ _ _ _ _
    by_cases hx : x = 0
    · subst hx
      rw [if_neg (by simp)] at hm
      obtain ⟨m1, m2⟩ := hmv rfl
      have HC2 := Lib.hid (HCD.out w2 a2 ho2 (hr2 rfl))
      clear hmv hr2 ho2 HSK HSS HCD HOD HRD
      by_cases hy : y = 256
      · rw [if_pos hy] at hm
        have HD := Lib.hid (HC2.out.done hm.symm)
        subst hy
        clear hm
        go_wp2_with fail
        go_ret
        exact HD.out
      · rw [if_neg hy] at hm
        have hy1 : ¬ (y : Int) = 256 := by omega
        by_cases hy2 : y < 256
        · rw [if_pos hy2] at hm
          have hy3 : (y : Int) < 256 := by omega
          have hone := one b d s a2 most A' n c kv p1 p2 out (UInt8.ofNat y) w2 HC2.out.str HC2.out.rd (by omega)
          have eb : (UInt8.ofNat y).toNat = y := by rw [UInt8.toNat_ofNat']; omega
          rw [eb] at hone
          unfold mOne at hone
          rw [HC2.out.str.len] at hone hm
          have HO1 := Lib.hid hone
          have ew : IntKind.u8.wrap (y : Int) = (y : Int) := by rw [IntKind.wrap_u8']; omega
          clear hone eb
          by_cases hroom : most < (n : Int) + 1
          · rw [if_pos hroom] at hm HO1
            have HM := Lib.hid hm
            clear hm hroom
            go_wp2_with fail
            refine HO1.out.mono ?_
            intro e w3 hd3
            have ho3 := HC2.out.bad hd3
            obtain ⟨rfl, _⟩ := hd3
            have HO3 := Lib.hid ho3
            clear ho3 HO1
            go_wp2
            go_ret
            exact ⟨by rw [← HM.out]; rfl, HO3.out, by rw [← HM.out]; intro h; cases h⟩
          · rw [if_neg hroom] at hm HO1
            have HM := Lib.hid hm
            have HLN : Hid ((out ++ [UInt8.ofNat y]).length ≤ 100000) := Lib.hid (by rw [List.length_append, HC2.out.str.len]; simp; omega)
            clear hm hroom
            go_wp2_with fail
            refine HO1.out.mono ?_
            intro e w3 hd3
            obtain ⟨A3, c3, hc3⟩ := HC2.out.next hd3 rfl
            obtain ⟨rfl, _⟩ := hd3
            have HC3 := Lib.hid hc3
            clear hc3 HO1
            go_wp2_with fail
            go_roundg f
            case measure => omega
            case rel => exact ⟨a2, A3, _, c3, _, m2, by omega, HLN.out, HC3, HM⟩
        · rw [if_neg hy2] at hm
          have hy3 : ¬ (y : Int) < 256 := by omega
          have hT2 := HC2.out.cods.t2
          have hsev := several b d lo T2 s a2 most A' n c kv p1 p2 out lb y w2 HC2.out.str HC2.out.rd hT2 hbl HLB.out.low HLB.out.len hs m2 hn hmost (by omega) (by omega)
          have hbo := mBack_ok (bitsOf s.data.toList) lb most y a2 out
          obtain ⟨⟨x3, a3, o3⟩, hq3⟩ : ∃ q, mBack (bitsOf s.data.toList) lb most y a2 out = q := ⟨_, rfl⟩
          rw [hq3] at hm hsev hbo
          simp only at hm hbo
          have HSV := Lib.hid hsev
          have k1 := HC2.out.box.cell 1 rfl
          clear hsev hq3 hT2
          by_cases hx3 : x3 = 0
          · subst hx3
            rw [if_neg (by simp)] at hm
            obtain ⟨n1, n2, n3⟩ := hbo rfl
            rw [bits_len] at n2
            have HM := Lib.hid hm
            have HLN : Hid (o3.length ≤ 100000) := Lib.hid (by omega)
            clear hm hbo n3
            go_wp2_with fail
            refine HSV.out.mono ?_
            intro e w3 hd3
            obtain ⟨A3, c3, hc3⟩ := HC2.out.next hd3 rfl
            obtain ⟨rfl, _⟩ := hd3
            have HC3 := Lib.hid hc3
            clear hc3 HSV
            go_wp2_with fail
            go_roundg f
            case measure => omega
            case rel => exact ⟨a3, A3, _, c3, o3, n2, by omega, HLN.out, HC3, HM⟩
          · rw [if_pos hx3] at hm
            have hx4 : ¬ (x3 : Int) = 0 := by omega
            have HM := Lib.hid hm
            clear hm hbo
            go_wp2_with fail
            refine HSV.out.mono ?_
            intro e w3 hd3
            have ho3 := HC2.out.bad hd3
            obtain ⟨rfl, _⟩ := hd3
            have HO3 := Lib.hid ho3
            clear ho3 HSV
            go_wp2
            go_ret
            exact ⟨by rw [← HM.out]; rfl, HO3.out, by rw [← HM.out]; intro h; exact absurd h hx3⟩
    · rw [if_pos hx] at hm
      have hx4 : ¬ (x : Int) = 0 := by omega
      have HM := Lib.hid hm
      have HO3 := Lib.hid (HOD.out w2 ho2)
      clear hm hmv hr2 ho2 HSK HSS HCD HOD HRD
      go_wp2_with fail
      go_ret
      exact ⟨by rw [← HM.out]; rfl, HO3.out, by rw [← HM.out]; intro h; exact absurd h hx⟩
end Go.Proofs.YtackcgiokkbhdaaDoor
