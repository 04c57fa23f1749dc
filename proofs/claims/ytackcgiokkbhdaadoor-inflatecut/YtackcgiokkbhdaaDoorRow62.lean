/- Layer 8, the program: lengths by the first code. -/
import Derived.Test.YtackcgiokkbhdaaDoorFirst
namespace Go.Proofs.YtackcgiokkbhdaaDoor
open Go.RowKit

theorem mRow_step (B : List UInt8) (l : List Nat) (n f a : Nat) (o : List Nat) : mRow B l n (f + 1) a o =
    if n ≤ o.length then (0, a, o)
    else if (rdp l B a).2.2 ≠ 0 then ((rdp l B a).2.2, a, o)
    else if (rdp l B a).1 < 16 then mRow B l n f (rdp l B a).2.1 (o ++ [(rdp l B a).1])
    else if (rdp l B a).1 = 16 ∧ o.length = 0 then (2, a, o)
    else if B.length < (rdp l B a).2.1 + tw (rdp l B a).1 then (3, a, o)
    else if n < o.length + (tv (rdp l B a).1 + nm B (rdp l B a).2.1 (tw (rdp l B a).1)) then (2, a, o)
    else mRow B l n f ((rdp l B a).2.1 + tw (rdp l B a).1) (o ++ List.replicate (tv (rdp l B a).1 + nm B (rdp l B a).2.1 (tw (rdp l B a).1)) (if (rdp l B a).1 = 16 then o.getD (o.length - 1) 0 else 0)) := rfl
theorem mRow_full (B : List UInt8) (l : List Nat) (n : Nat) : ∀ (f a : Nat) (o : List Nat), n ≤ o.length → mRow B l n f a o = (0, a, o)
  | 0, a, o, _ => rfl
  | f + 1, a, o, h => by rw [mRow_step, if_pos h]
theorem rdp_symbol19 (l : List Nat) (b : List UInt8) (a : Nat) (h : l.length ≤ 19) : (rdp l b a).1 < 19 := by
  rcases scan_symbol l b (lg l) 1 0 a with h1 | h1
  · exact Nat.lt_of_lt_of_le h1 h
  · show (scan l b (lg l) 1 0 a).1 < 19
    omega
theorem tw_tv (y : Nat) : 1 ≤ tv y ∧ tv y ≤ 11 ∧ tw y ≤ 7 := by unfold tv tw; split <;> split <;> (try split) <;> omega

/-- Where reading the lengths stands. -/
structure RAt (w : World) (b : Nat) (s : ByteArray) (a : Nat) (A : Option Addr) (z c : Nat) (o : List Nat) (wx : World) : Prop where
  rd : Rd wx b s a false
  row : Row 3 wx A z c (ints o)
  len : o.length = z
  only : Only (· = b) w wx
  lies : ∀ j, Lies A j → w.heap.size ≤ j
  bl : b < w.heap.size
theorem RAt.read {w wx wy : World} {b : Nat} {s : ByteArray} {a a2 : Nat} {A : Option Addr} {z c : Nat} {o : List Nat} (h : RAt w b s a A z c o wx) (k : Only (· = b) wx wy) (hr : Rd wy b s a2 false) : RAt w b s a2 A z c o wy :=
  ⟨hr, h.row.only k (fun j hj e => by have := h.lies j hj; have := h.bl; omega), h.len, h.only.trans k, h.lies, h.bl⟩
theorem RAt.new {w wx wy : World} {b : Nat} {s : ByteArray} {a : Nat} {A : Option Addr} {z c : Nat} {o : List Nat} (h : RAt w b s a A z c o wx) (k : Only (fun _ => False) wx wy) : RAt w b s a A z c o wy :=
  ⟨h.rd.only k (fun f => f), h.row.only k (fun _ _ f => f), h.len, h.only.trans (k.mono fun _ f => f.elim), h.lies, h.bl⟩
theorem RAt.more {w wx wy : World} {b : Nat} {s : ByteArray} {a : Nat} {A A2 : Option Addr} {z c c2 m : Nat} {o r : List Nat} (h : RAt w b s a A z c o wx) (hr : Row 3 wy A2 (z + m) c2 (ints o ++ ints r)) (hl : r.length = m) (ho : Only (Lies A) wx wy) (ha : A2 = A ∨ A2 = some ⟨wx.heap.size, 0, none⟩) : RAt w b s a A2 (z + m) c2 (o ++ r) wy := by
  have hb := h.bl
  have hsz := h.only.size
  refine ⟨h.rd.only ho (fun hj => by have := h.lies b hj; omega), by rw [ints_append]; exact hr, by rw [List.length_append, h.len, hl], h.only.andThen ho fun j hj => .inr (h.lies j hj), fun j hj => ?_, hb⟩
  rcases ha with e | e
  · exact h.lies j (e ▸ hj)
  · obtain ⟨ad, e1, e2⟩ := hj
    rw [e] at e1
    obtain rfl := Option.some.inj e1
    have e3 : wx.heap.size = j := e2
    omega

def RowPost (w : World) (b : Nat) (s : ByteArray) (n : Nat) (r : Nat × Nat × List Nat) (e : Ending) (w' : World) : Prop := Only (· = b) w w' ∧
  if r.1 ≠ 0 then e = .returned (.tuple #[.slice none 0 0, .int .i64 r.1]) else ∃ A c, e = .returned (.tuple #[.slice A n c, .int .i64 0]) ∧ RAt w b s r.2.1 A n c r.2.2 w'

theorem make_cap (n : Nat) (h : n ≤ 1000) (w : World) : (Instr.makeSlice 26 (.int .i64 0) (.int .i64 n)).run Tryd.prog w = .ok (.slice (some ⟨w.heap.size, 0, none⟩) 0 n) (w.alloc (.cells (List.replicate n (Value.int .i64 0)).toArray 3)) := by
  obtain ⟨i, hi, hz, hsz, hby⟩ := info_parts info3
  have h := run_make (P := Tryd.prog) w 26 3 i (.int .i64 0) Tryd.underlying26 hi hz .i64 .i64 0 n (by omega) (by omega) (by rw [hby]; omega) (by omega)
  have e1 : madeCells (Value.int .i64 0).cells (n * 1) = (List.replicate n (Value.int .i64 0)).toArray := by
    apply Array.ext'
    rw [Value.cells, toList_madeCells_one]
    · simp
    all_goals intros; simp_all
  rw [Int.toNat_natCast, hsz, e1] at h
  exact h

set_option maxRecDepth 100000 in
set_option maxHeartbeats 4000000 in
theorem prow (b d lo T : Nat) (s : ByteArray) (l : List Nat) (a n : Nat) (w : World) (hc : w.cell? ⟨d, 0, none⟩ = some (.pointer (some ⟨b, 0, none⟩))) (hbd : d ≠ b) (hr : Rd w b s a false) (hT : Tab w lo T l) (hbl : b < lo) (hl : Low l) (h19 : l.length ≤ 19)
    (hs : s.size ≤ 1073741824) (ha : a ≤ 8 * s.size) (hn1 : 1 ≤ n) (hn : n ≤ 400) :
    Calls Tryd.prog 62 #[.pointer (some ⟨d, 0, none⟩), .pointer (some ⟨T, 0, none⟩), .int .i64 n] w (RowPost w b s n (mRow (bitsOf s.data.toList) l n n a [])) := by
  obtain ⟨r, hr0⟩ : ∃ r, mRow (bitsOf s.data.toList) l n n a [] = r := ⟨_, rfl⟩
  rw [hr0]
  have hmk := make_cap n (by omega) w
  have hoa : Only (fun _ => False) w (w.alloc (.cells (List.replicate n (Value.int .i64 0)).toArray 3)) := (Only.refl _ w).alloc _
  have h0 : RAt w b s a (some ⟨w.heap.size, 0, none⟩) 0 n [] (w.alloc (.cells (List.replicate n (Value.int .i64 0)).toArray 3)) := by
    refine ⟨hr.only hoa fun f => f, ⟨rfl, .inr ⟨w.heap.size, _, (0, 0), rfl, heap_alloc_new w _, Nat.zero_le _, by unfold maxLen; omega, by simp, by simp [ints], fun i _ => by simp⟩⟩, rfl, hoa.mono fun _ f => f.elim, ?_, hr.lt⟩
    rintro j ⟨ad, e, rfl⟩
    obtain rfl := Option.some.inj e
    exact Nat.le_refl _
  obtain ⟨wa, hwa⟩ : ∃ wa, w.alloc (.cells (List.replicate n (Value.int .i64 0)).toArray 3) = wa := ⟨_, rfl⟩
  rw [hwa] at hmk h0
  have H0 := Lib.hid h0
  have HR0 := Lib.hid hr0
  have HC : Hid (∀ wx, Only (· = b) w wx → wx.cell? ⟨d, 0, none⟩ = some (.pointer (some ⟨b, 0, none⟩))) := Lib.hid fun wx ho => ho.cell hc hbd
  have HTR : Hid (∀ wx a', Only (· = b) w wx → Rd wx b s a' false → a' ≤ 8 * s.size → Calls Tryd.prog 55 #[.pointer (some ⟨T, 0, none⟩), .pointer (some ⟨b, 0, none⟩)] wx (ReadPost wx b s (rdp l (bitsOf s.data.toList) a'))) := Lib.hid fun wx a' ho hr' ha' => tread lo T b s l a' wx (hT.keep ho fun j h1 _ e => by omega) hr' hbl hl (by omega) hs ha'
  have HTM : Hid (∀ wx a' y, Only (· = b) w wx → Rd wx b s a' false → a' ≤ 8 * s.size → 16 ≤ y → y ≤ 18 → Calls Tryd.prog 77 #[.pointer (some ⟨d, 0, none⟩), .int .i64 (y : Nat)] wx (ValPost wx b s (mAbove (bitsOf s.data.toList) a' (tv y) (tw y)))) := Lib.hid fun wx a' y ho hr' ha' h1 h2 => times b d s a' y wx (ho.cell hc hbd) hbd hr' hs ha' h1 h2
  obtain ⟨G, hG⟩ : ∃ G, w.heap.size = G := ⟨_, rfl⟩
  rw [hG] at hmk
  have HG := Lib.hid hG
  rw [hG] at H0
  clear h0 hoa hwa hr hr0 hT hc hl hG
  go_enter Tryd.func62, Tryd.ntmps62
  go_wp2_with fail
  go_loopg [8, 9, 10, 11, 12] n (fun gk v u1 u2 u3 u4 wx => ∃ (a : Nat) (A : Option Addr) (z c : Nat) (o : List Nat), v = .slice A z c ∧ z ≤ n ∧ n ≤ z + gk ∧ a ≤ 8 * s.size ∧ Hid (RAt w b s a A z c o wx) ∧ Hid (mRow (bitsOf s.data.toList) l n gk a o = r))
  case atStart => exact ⟨a, _, 0, n, [], rfl, by omega, by omega, ha, H0, HR0⟩
  case round =>
    clear H0 HR0 hmk ha
    obtain ⟨a, A, z, c, o, rfl, hz, hgk, ha, HRA, HR0⟩ := hrel
    have hc0 := HC.out wr HRA.out.only
    have hozl := HRA.out.len
    by_cases hlt : z < n
    · obtain ⟨f, rfl⟩ : ∃ f, gk = f + 1 := ⟨gk - 1, by omega⟩
      have hm := HR0.out
      rw [mRow_step, hozl, if_neg (by omega), bits_len] at hm
      have HRD := Lib.hid (HTR.out wr a HRA.out.only HRA.out.rd ha)
      have hmv := rdp_moves l (bitsOf s.data.toList) a
      have hsy := rdp_symbol19 l (bitsOf s.data.toList) a h19
      rw [bits_len] at hmv
      obtain ⟨⟨y, a2, x⟩, hq⟩ : ∃ q, rdp l (bitsOf s.data.toList) a = q := ⟨_, rfl⟩
      rw [hq] at HRD hm hmv hsy
      simp only at hm hmv hsy
      clear hq HR0
      have HNX : Hid (∀ w2, Only (· = b) wr w2 → Rd w2 b s a2 false → RAt w b s a2 A z c o w2) := Lib.hid fun w2 ho hr2 => HRA.out.read ho hr2
      have HOX : Hid (∀ w2, Only (· = b) wr w2 → Only (· = b) w w2) := Lib.hid fun w2 ho => HRA.out.only.trans ho
      by_cases hx : x = 0
      · subst hx
        rw [if_neg (by simp)] at hm
        obtain ⟨m1, m2⟩ := hmv rfl
        clear hmv
        by_cases hy : y < 16
        · rw [if_pos hy] at hm
          have hy2 : (y : Int) ≤ 15 := by omega
          have HM := Lib.hid hm
          clear hm
          go_wp2_with fail
          refine HRD.out.mono ?_
          rintro e w2 ⟨rfl, hr2, ho2⟩
          have HA2 := Lib.hid (HNX.out w2 ho2 (hr2 rfl))
          have HAW : Hid (RAt w b s a2 A z c o (w2.alloc (.cells #[.int .i64 (y : Nat)] 3))) := Lib.hid (HA2.out.new ((Only.refl _ w2).alloc _))
          have HSR := Lib.hid (Src.oneInt Tryd.underlying26 w2 .i64 y 1 3)
          obtain ⟨wy, hwy⟩ : ∃ wy, w2.alloc (.cells #[.int .i64 (y : Nat)] 3) = wy := ⟨_, rfl⟩
          rw [hwy] at HAW HSR
          clear hr2 ho2 HRD HNX HOX hc0
          go_upto_region 7 with fail
          go_wp2_with (at_builtin
                       refine wpList_append_row rfl (.tmp 33) (.tmp 35) 26 26 3 rfl Tryd.underlying26 info3 A z c 1 (ints o) (ints [y]) (.slice (some ⟨w2.heap.size, 0, none⟩) 1 1) (by rfl) (by rfl) HAW.out.row rfl HSR.out (by omega) (by omega) ?_
                       intro A9 c9 w9 hrow9 honly9 hlies9
                       have H9 := Lib.hid (HAW.out.more hrow9 rfl honly9 hlies9)
                       clear hrow9 honly9 hlies9)
          go_roundg f
          case measure => omega
          case rel => exact ⟨a2, A9, z + 1, c9, o ++ [y], by first | rfl | go_num, by omega, by omega, m2, H9, HM⟩
        · rw [if_neg hy] at hm
          have hy2 : ¬ (y : Int) ≤ 15 := by omega
          have hTM := Lib.hid (fun wx ho hr' => HTM.out wx a2 y ho hr' m2 (by omega) (by omega))
          by_cases hy16 : y = 16
          · by_cases hz0 : z = 0
            · rw [if_pos ⟨hy16, hz0⟩] at hm
              subst hy16
              subst hz0
              have HM := Lib.hid hm
              clear hm hTM
              go_wp2_with fail
              refine HRD.out.mono ?_
              rintro e w2 ⟨rfl, hr2, ho2⟩
              have HO := Lib.hid (HOX.out w2 ho2)
              clear hr2 ho2 HRD HNX HOX hc0
              go_wp2
              go_ret2
              exact ⟨HO.out, by rw [← HM.out]; rfl⟩
            · rw [if_neg (fun h => hz0 h.2)] at hm
              have hzz : ¬ (z : Int) = 0 := by omega
              have hzb : ((z : Int) == 0) = false := by simp; omega
              have hzd : decide ((z : Int) = 0) = false := by simp; omega
              rw [if_pos hy16] at hm
              subst hy16
              obtain ⟨t1, t2, t3⟩ := tw_tv 16
              have hnm := nm_lt (bitsOf s.data.toList) a2 (tw 16)
              have hp : 2 ^ tw 16 ≤ 2 ^ 7 := Nat.pow_le_pow_right (by decide) t3
              unfold mAbove at hTM
              rw [bits_len] at hTM
              by_cases hend : 8 * s.size < a2 + tw 16
              · rw [if_pos hend] at hm hTM
                have HM := Lib.hid hm
                clear hm hend hnm hp t1 t2 t3
                go_wp2_with fail
                refine HRD.out.mono ?_
                rintro e w2 ⟨rfl, hr2, ho2⟩
                have HO := Lib.hid (HOX.out w2 ho2)
                have HR2 := Lib.hid (hr2 rfl)
                clear hr2 ho2 HRD HNX HOX hc0
                go_wp2_with fail
                refine (hTM.out w2 HO.out HR2.out).mono ?_
                rintro e w3 ⟨rfl, _, ho3⟩
                have HO3 := Lib.hid (HO.out.trans ho3)
                clear ho3 hTM
                go_wp2
                go_ret2
                exact ⟨HO3.out, by rw [← HM.out]; rfl⟩
              · rw [if_neg hend] at hm hTM
                obtain ⟨K, hK⟩ : ∃ K, tv 16 + nm (bitsOf s.data.toList) a2 (tw 16) = K := ⟨_, rfl⟩
                rw [hK] at hm hTM
                have hK1 : 1 ≤ K := by omega
                have hK2 : K ≤ 300 := by omega
                have ha3 : a2 + tw 16 ≤ 8 * s.size := by omega
                obtain ⟨a3, ha3e⟩ : ∃ a3, a2 + tw 16 = a3 := ⟨_, rfl⟩
                rw [ha3e] at hm hTM ha3
                clear hnm hp t1 t2 t3 hK hend ha3e
                by_cases hov : n < z + K
                · rw [if_pos hov] at hm
                  have HM := Lib.hid hm
                  have hov2 : (n : Int) - (z : Int) < (K : Int) := by omega
                  clear hm
                  go_wp2_with fail
                  refine HRD.out.mono ?_
                  rintro e w2 ⟨rfl, hr2, ho2⟩
                  have HO := Lib.hid (HOX.out w2 ho2)
                  have HR2 := Lib.hid (hr2 rfl)
                  clear hr2 ho2 HRD HNX HOX hc0
                  go_wp2_with fail
                  refine (hTM.out w2 HO.out HR2.out).mono ?_
                  rintro e w3 ⟨rfl, _, ho3⟩
                  have HO3 := Lib.hid (HO.out.trans ho3)
                  clear ho3 hTM
                  go_wp2
                  go_ret2
                  exact ⟨HO3.out, by rw [← HM.out]; rfl⟩
                · rw [if_neg hov] at hm
                  have hov2 : ¬ (n : Int) - (z : Int) < (K : Int) := by omega
                  obtain ⟨L, hL⟩ : ∃ L, o.getD (z - 1) 0 = L := ⟨_, rfl⟩
                  rw [hL] at hm
                  have HM := Lib.hid hm
                  have HRP : Hid (∀ wx : World, Calls Tryd.prog 60 #[.slice (some ⟨wx.heap.size, 0, none⟩) 1 1, .int .i64 K] (wx.alloc (.cells #[.int .i64 (L : Nat)] 3)) (RepPost (wx.alloc (.cells #[.int .i64 (L : Nat)] 3)) L K)) := Lib.hid fun wx => repeated wx.heap.size L K _ ((Is.new wx 3 [.int .i64 (L : Nat)]).cell 0 rfl) hK1 hK2
                  clear hm
                  go_wp2_with fail
                  refine HRD.out.mono ?_
                  rintro e w2 ⟨rfl, hr2, ho2⟩
                  have HO := Lib.hid (HOX.out w2 ho2)
                  have HR2 := Lib.hid (hr2 rfl)
                  have HA2 := Lib.hid (HNX.out w2 ho2 (hr2 rfl))
                  clear hr2 ho2 HRD HNX HOX hc0
                  go_wp2_with fail
                  refine (hTM.out w2 HO.out HR2.out).mono ?_
                  rintro e w3 ⟨rfl, hr3, ho3⟩
                  have HA3 := Lib.hid (HA2.out.read ho3 (hr3 rfl))
                  clear hr3 ho3 hTM HA2 HR2
                  obtain ⟨g, eA, cl, _⟩ := HA3.out.row.cell (ints_at o (z - 1) (by omega))
                  subst eA
                  have hln : ln o (z - 1) = L := hL
                  rw [hln] at cl
                  have ez : (z : Int) - 1 = ((z - 1 : Nat) : Int) := by omega
                  have ez2 : z - 1 < z := by omega
                  obtain ⟨zi, hzi⟩ : ∃ zi, z - 1 = zi := ⟨_, rfl⟩
                  rw [hzi] at cl ez ez2
                  clear hln hL hzi
                  go_wp2_with fail
                  refine (HRP.out w3).mono ?_
                  rintro e w4 ⟨g4, rfl, m4⟩
                  have HA4 := Lib.hid (HA3.out.new (((Only.refl _ w3).alloc _).trans m4.2.1))
                  have HSR := Lib.hid (See.src (c := K) Tryd.underlying26 m4.see (by rw [ints_length, List.length_replicate]) (ints_one _))
                  have HLN : Hid ((ints (List.replicate K L)).length = K) := Lib.hid (by rw [ints_length, List.length_replicate])
                  clear m4 HRP HA3
                  go_wp2_with (at_builtin
                               refine wpList_append_row rfl (.tmp 67) (.tmp 71) 26 26 3 rfl Tryd.underlying26 info3 (some ⟨g, 0, none⟩) z c K (ints o) (ints (List.replicate K L)) (.slice (some ⟨g4, 0, none⟩) K K) (by rfl) (by rfl) HA4.out.row HLN.out HSR.out (by omega) (by omega) ?_
                               intro A9 c9 w9 hrow9 honly9 hlies9
                               have H9 := Lib.hid (HA4.out.more hrow9 (by rw [List.length_replicate]) honly9 hlies9)
                               clear hrow9 honly9 hlies9)
                  go_roundg f
                  case measure => omega
                  case rel => exact ⟨a3, A9, z + K, c9, _, by first | rfl | go_num, by omega, by omega, ha3, H9, HM⟩
          · rw [if_neg (fun h => hy16 h.1), if_neg hy16] at hm
            have hyi : ¬ (y : Int) = 16 := by omega
            have hyb : ((y : Int) == 16) = false := by simp; omega
            have hyd : decide ((y : Int) = 16) = false := by simp; omega
            obtain ⟨t1, t2, t3⟩ := tw_tv y
            have hnm := nm_lt (bitsOf s.data.toList) a2 (tw y)
            have hp : 2 ^ tw y ≤ 2 ^ 7 := Nat.pow_le_pow_right (by decide) t3
            unfold mAbove at hTM
            rw [bits_len] at hTM
            by_cases hend : 8 * s.size < a2 + tw y
            · rw [if_pos hend] at hm hTM
              have HM := Lib.hid hm
              clear hm hend hnm hp t1 t2 t3
              go_wp2_with fail
              refine HRD.out.mono ?_
              rintro e w2 ⟨rfl, hr2, ho2⟩
              have HO := Lib.hid (HOX.out w2 ho2)
              have HR2 := Lib.hid (hr2 rfl)
              clear hr2 ho2 HRD HNX HOX hc0
              go_wp2_with fail
              refine (hTM.out w2 HO.out HR2.out).mono ?_
              rintro e w3 ⟨rfl, _, ho3⟩
              have HO3 := Lib.hid (HO.out.trans ho3)
              clear ho3 hTM
              go_wp2
              go_ret2
              exact ⟨HO3.out, by rw [← HM.out]; rfl⟩
            · rw [if_neg hend] at hm hTM
              obtain ⟨K, hK⟩ : ∃ K, tv y + nm (bitsOf s.data.toList) a2 (tw y) = K := ⟨_, rfl⟩
              rw [hK] at hm hTM
              have hK1 : 1 ≤ K := by omega
              have hK2 : K ≤ 300 := by omega
              have ha3 : a2 + tw y ≤ 8 * s.size := by omega
              obtain ⟨a3, ha3e⟩ : ∃ a3, a2 + tw y = a3 := ⟨_, rfl⟩
              rw [ha3e] at hm hTM ha3
              clear hnm hp t1 t2 t3 hK hend ha3e
              by_cases hov : n < z + K
              · rw [if_pos hov] at hm
                have HM := Lib.hid hm
                have hov2 : (n : Int) - (z : Int) < (K : Int) := by omega
                clear hm
                go_wp2_with fail
                refine HRD.out.mono ?_
                rintro e w2 ⟨rfl, hr2, ho2⟩
                have HO := Lib.hid (HOX.out w2 ho2)
                have HR2 := Lib.hid (hr2 rfl)
                clear hr2 ho2 HRD HNX HOX hc0
                go_wp2_with fail
                refine (hTM.out w2 HO.out HR2.out).mono ?_
                rintro e w3 ⟨rfl, _, ho3⟩
                have HO3 := Lib.hid (HO.out.trans ho3)
                clear ho3 hTM
                go_wp2
                go_ret2
                exact ⟨HO3.out, by rw [← HM.out]; rfl⟩
              · rw [if_neg hov] at hm
                have hov2 : ¬ (n : Int) - (z : Int) < (K : Int) := by omega
                skip
                have HM := Lib.hid hm
                have HRP : Hid (∀ wx : World, Calls Tryd.prog 60 #[.slice (some ⟨wx.heap.size, 0, none⟩) 1 1, .int .i64 K] (wx.alloc (.cells #[.int .i64 0] 3)) (RepPost (wx.alloc (.cells #[.int .i64 0] 3)) 0 K)) := Lib.hid fun wx => repeated wx.heap.size 0 K _ ((Is.new wx 3 [.int .i64 0]).cell 0 rfl) hK1 hK2
                clear hm
                go_wp2_with fail
                refine HRD.out.mono ?_
                rintro e w2 ⟨rfl, hr2, ho2⟩
                have HO := Lib.hid (HOX.out w2 ho2)
                have HR2 := Lib.hid (hr2 rfl)
                have HA2 := Lib.hid (HNX.out w2 ho2 (hr2 rfl))
                clear hr2 ho2 HRD HNX HOX hc0
                go_wp2_with fail
                refine (hTM.out w2 HO.out HR2.out).mono ?_
                rintro e w3 ⟨rfl, hr3, ho3⟩
                have HA3 := Lib.hid (HA2.out.read ho3 (hr3 rfl))
                clear hr3 ho3 hTM HA2 HR2
                go_wp2_with fail
                refine (HRP.out w3).mono ?_
                rintro e w4 ⟨g4, rfl, m4⟩
                have HA4 := Lib.hid (HA3.out.new (((Only.refl _ w3).alloc _).trans m4.2.1))
                have HSR := Lib.hid (See.src (c := K) Tryd.underlying26 m4.see (by rw [ints_length, List.length_replicate]) (ints_one _))
                have HLN : Hid ((ints (List.replicate K 0)).length = K) := Lib.hid (by rw [ints_length, List.length_replicate])
                clear m4 HRP HA3
                go_wp2_with (at_builtin
                             refine wpList_append_row rfl (.tmp 67) (.tmp 71) 26 26 3 rfl Tryd.underlying26 info3 A z c K (ints o) (ints (List.replicate K 0)) (.slice (some ⟨g4, 0, none⟩) K K) (by rfl) (by rfl) HA4.out.row HLN.out HSR.out (by omega) (by omega) ?_
                             intro A9 c9 w9 hrow9 honly9 hlies9
                             have H9 := Lib.hid (HA4.out.more hrow9 (by rw [List.length_replicate]) honly9 hlies9)
                             clear hrow9 honly9 hlies9)
                go_roundg f
                case measure => omega
                case rel => exact ⟨a3, A9, z + K, c9, _, by first | rfl | go_num, by omega, by omega, ha3, H9, HM⟩
      · rw [if_pos hx] at hm
        have hx2 : ¬ (x : Int) = 0 := by omega
        have HM := Lib.hid hm
        clear hm hmv
        go_wp2_with fail
        refine HRD.out.mono ?_
        rintro e w2 ⟨rfl, hr2, ho2⟩
        have HO := Lib.hid (HOX.out w2 ho2)
        clear hr2 ho2 HRD HNX HOX hc0
        go_wp2
        go_ret2
        exact ⟨HO.out, by rw [← HM.out, if_pos hx]; rfl⟩
    · obtain rfl : z = n := by omega
      have hm := HR0.out
      rw [mRow_full _ _ _ _ _ _ (by rw [hozl]; exact Nat.le_refl _)] at hm
      have HM := Lib.hid hm
      clear hm HR0
      go_wp2
      go_ret2
      refine ⟨HRA.out.only, ?_⟩
      rw [← HM.out, if_neg (by simp)]
      exact ⟨A, c, rfl, HRA.out⟩
end Go.Proofs.YtackcgiokkbhdaaDoor
