/- Layer 5: the walk of PrefixBack. -/
import Derived.Test.YtfobkknbhflnbaaOwn
namespace Go.Proofs.Ytfobkknbhflnbaa
open Go.RowKit

/-- What the first loop keeps. -/
def BackInv (l : List Nat) (wb : World) (D b : Nat) (Aw : Option Addr) (nw cw : Nat) (At : Option Addr) (nt ct : Nat) (wx : World) : Prop :=
  ∃ (A : Option Addr) (n c : Nat) (lw : List UInt8) (th : List Nat), Own wx D b A n c lw (enc l th) Aw nw cw (enc l th) At nt ct th ∧ (∀ s ∈ th, Has l s) ∧ Keep D wb wx
theorem BackInv.quiet {l : List Nat} {wb wx wy : World} {D b : Nat} {Aw At : Option Addr} {nw cw nt ct : Nat} (h : BackInv l wb D b Aw nw cw At nt ct wx) (o : Only (fun _ => False) wx wy) : BackInv l wb D b Aw nw cw At nt ct wy := by
  obtain ⟨A, n, c, lw, th, h1, h2, h3⟩ := h
  exact ⟨A, n, c, lw, th, h1.quiet o, h2, h3.trans (o.keep0 _)⟩
theorem BackInv.start (l : List Nat) (wb : World) : BackInv l wb wb.heap.size wb.heap.size none 0 0 none 0 0 (wb.alloc (.cells #[.slice none 0 0, .int .i64 0] 70)) := by
  have e : enc l [] = [] := rfl
  refine ⟨none, 0, 0, [], [], ?_, (by intro s hs; cases hs), (Only.refl _ wb).alloc _⟩
  rw [e]
  exact ⟨⟨⟨Is.new wb 70 _, BRow.nil 5 _⟩, rfl, by decide⟩, rfl, BRow.nil 5 _, Row.nil 3 _, Nat.le_refl _, (by rintro j ⟨ad, e, _⟩; cases e), (by rintro j ⟨ad, e, _⟩; cases e), (by rintro j ⟨ad, e, _⟩; cases e), by simp⟩
theorem ints_snoc (th : List Nat) (s : Nat) : ints (th ++ [s]) = ints th ++ [.int .i64 (s : Int)] := by simp [ints]
theorem Own.numbers {w : World} {D b : Nat} {A : Option Addr} {n c : Nat} {lw bw : List UInt8} {Aw : Option Addr} {nw cw : Nat} {bl : List UInt8} {At : Option Addr} {nt ct : Nat} {th : List Nat} (h : Own w D b A n c lw bw Aw nw cw bl At nt ct th) : bl.length = nw ∧ th.length = nt := by
  refine ⟨h.want.len, ?_⟩
  have := h.there.len
  rw [ints_length] at this
  exact this

set_option maxRecDepth 100000 in
set_option maxHeartbeats 4000000 in
theorem back_good (A A3 : Option Addr) (n c q c3 : Nat) (l : List Nat) (z : List Int) (w : World) (h : See w w.heap.size A (ints l)) (h3 : See w w.heap.size A3 (zints z)) (hn : l.length = n) (h60 : n ≤ 60) (hz : z.length = q) (hq : q ≤ 60) (hl : Low l) (hk : (kd l).2 = 0) :
    Calls Try.prog 5 #[.slice A n c, .slice A3 q c3] w (Yes w) := by
  have HS := Lib.hid h
  have HS3 := Lib.hid h3
  have HL := Lib.hid hl
  have HN := Lib.hid hn
  have HK := Lib.hid hk
  have HZ := Lib.hid hz
  obtain ⟨k, hk1⟩ : ∃ k, (kd l).1 = k := ⟨_, rfl⟩
  have H8 : Hid (∀ w', Only (fun _ => False) w w' → Calls Try.prog 8 #[.slice A n c] w' fun e w'' => e = .returned (.tuple #[.int .i64 k, .int .i64 0]) ∧ w' = w'') := Lib.hid fun w' ho => by
    have := rcheck_yes A n c _ l w' (h.new ho) hn (by omega) hl
    rw [hk, hk1] at this
    exact this
  have HF := Lib.hid (kd_full l hl hk)
  clear h h3 hl hn hk hk1 hz
  go_enter Try.func5, Try.ntmps5
  go_wp2_with fail
  refine (awake w).mono ?_
  rintro e w1 ⟨rfl, ho1⟩
  have HO1 := Lib.hid ho1
  clear ho1
  go_wp2_with fail
  refine (H8.out w1 HO1.out).mono ?_
  rintro e w2 ⟨rfl, rfl⟩
  clear H8
  go_wp2_with fail
  refine (new_yes A n c _ l w1 (HS.out.new HO1.out) HO1.out.size HN.out (by omega) HL.out HK.out).mono ?_
  rintro e w2 ⟨T, rfl, ht2, ho2, hT2⟩
  have HO2 := Lib.hid (HO1.out.trans ho2)
  have HT2 := Lib.hid ht2
  clear ho2 ht2 hT2
  go_wp2_with fail
  refine (rcodes A n c _ l w2 (HS.out.new HO2.out) HN.out (by omega) HL.out).mono ?_
  rintro e wb ⟨g3, rfl, hM3⟩
  have HM3 := Lib.hid hM3
  have HOb : Hid (Only (fun _ => False) w wb) := Lib.hid (HO2.out.trans hM3.2.1)
  have HTb : Hid (Tab wb T l) := Lib.hid (HT2.out.new hM3.2.1)
  have hTD := HTb.out.lt
  clear hM3
  go_wp2_with fail
  refine (newWriter wb).mono ?_
  rintro e w4 ⟨rfl, rfl⟩
  have HI4 := Lib.hid (BackInv.start l wb)
  obtain ⟨w4, hw4⟩ : ∃ w4, wb.alloc (.cells #[.slice none 0 0, .int .i64 0] 70) = w4 := ⟨_, rfl⟩
  rw [hw4] at HI4
  try rw [hw4]
  obtain ⟨D, hD⟩ : ∃ D, wb.heap.size = D := ⟨_, rfl⟩
  have HSb : Hid (See wb D A (ints l)) := Lib.hid ((HS.out.new HOb.out).more (by rw [← hD]; exact HOb.out.size))
  have HS3b : Hid (See wb D A3 (zints z)) := Lib.hid ((HS3.out.new HOb.out).more (by rw [← hD]; exact HOb.out.size))
  have HCb : Hid (See wb D (some ⟨g3, 0, none⟩) (ints (cds l))) := Lib.hid (by rw [← hD]; exact HM3.out.see)
  have hwD : w.heap.size ≤ D := by rw [← hD]; exact HOb.out.size
  rw [hD] at HI4 hTD
  try rw [hD]
  clear hw4 hD
  go_wp2_with fail
  go_loopg [11, 12, 51] q (fun gk v11 v12 i wx => ∃ (k nw cw nt ct : Nat) (Aw At : Option Addr), i = .int .i64 k ∧ v11 = .slice Aw nw cw ∧ v12 = .slice At nt ct ∧ k + gk ≤ q ∧ q ≤ k + gk ∧ nt ≤ k ∧ nw ≤ 15 * k ∧ BackInv l wb D D Aw nw cw At nt ct wx)
  case atStart => exact ⟨0, 0, 0, 0, 0, none, none, rfl, rfl, rfl, by omega, by omega, by omega, by omega, HI4.out⟩
  case round =>
    clear HI4
    obtain ⟨k, nw, cw, nt, ct, Aw, At, rfl, rfl, rfl, hk, hk2, hnt, hnw, hI⟩ := hrel
    by_cases hlt : k < q
    · obtain ⟨A', n', c', lw, th, hown, hth, hkeep⟩ := hI
      obtain ⟨b3, off3, rfl, _, q3⟩ := (HS3b.out.keep hkeep) k _ (zints_at z k (by rw [HZ.out]; exact hlt))
      have ht : Tab wr T l := HTb.out.keep (hkeep.less (by omega))
      have hSl := HSb.out.keep hkeep
      have hCl := HCb.out.keep hkeep
      obtain ⟨x, hx⟩ : ∃ x, z.getD k 0 = x := ⟨_, rfl⟩
      rw [hx] at q3
      clear hx
      by_cases hin : 0 ≤ x ∧ x < (n : Int)
      · obtain ⟨s, rfl⟩ : ∃ s : Nat, x = (s : Int) := ⟨x.toNat, by omega⟩
        have hsn : s < n := by omega
        have hsl : s < l.length := by rw [HN.out]; exact hsn
        obtain ⟨b, off, rfl, _, q1⟩ := hSl s _ (ints_at l s hsl)
        by_cases h0 : 0 < ln l s
        · have hhas : Has l s := ⟨hsl, h0⟩
          have hnum := hown.numbers
          have hx15 := ln_le l s HL.out
          have HW := Lib.hid (twrite_more T D s n' c' A' l lw (enc l th) wr ht hown.wrt hown.num hhas HL.out (by omega))
          have HQ1 : Hid (∀ wy, Keep D wb wy → wy.cell? ⟨b, off + s, none⟩ = some (.int .i64 (ln l s : Nat))) := Lib.hid fun wy hy => by
            obtain ⟨b', off', e1, _, hc⟩ := (HSb.out.keep hy) s _ (ints_at l s hsl)
            simp only [Option.some.injEq, Addr.mk.injEq, and_true] at e1
            obtain ⟨rfl, rfl⟩ := e1
            exact hc
          have HH := Lib.hid hhas
          have HOwn := Lib.hid hown
          have HTh := Lib.hid hth
          have HKp := Lib.hid hkeep
          have HTx : Hid (∀ wy, Keep D wb wy → Calls Try.prog 20 #[.pointer (some ⟨T, 0, none⟩), .int .i64 s] wy fun e w' => e = .returned (.int .i64 (ln l s : Nat)) ∧ wy = w') := Lib.hid fun wy hy => tbits_in T s l wy (HTb.out.keep (hy.less (by omega))) hsl
          have HBt : Hid (∀ wy, Keep D wb wy → Calls Try.prog 21 #[.slice (some ⟨b, off, none⟩) n c, .slice (some ⟨g3, 0, none⟩) n n, .int .i64 s] wy (BitsMade wy (ln l s) (cd l s))) := Lib.hid fun wy hy => rbits _ _ n c n D s l wy (HSb.out.keep hy) (HCb.out.keep hy) HN.out (by omega) HL.out hhas
          obtain ⟨x, hx⟩ : ∃ x, ln l s = x := ⟨_, rfl⟩
          rw [hx] at h0 hx15 HW HQ1 HTx HBt
          have HX := Lib.hid hx
          have hx0 : ¬ (x : Int) = 0 := by omega
          have hx0' : ((x : Int) == 0) = false := by simpa using hx0
          have d1 : decide ((s : Int) < 0) = false := by simp
          have d2 : decide ((n : Int) ≤ (s : Int)) = false := by simp; omega
          have d2' : ¬ (n : Int) ≤ (s : Int) := by omega
          clear hown hth hkeep ht hSl hCl hin hhas hx q1 hnum
          go_wp2_with fail
          refine HW.out.mono ?_
          rintro e w5 ⟨rfl, A5, n5, c5, l5, hw5, he5, ho5, ha5⟩
          have HO5 := Lib.hid (HOwn.out.write hw5 he5 ho5 ha5)
          have hk5 : Keep D wb w5 := HKp.out.trans (ho5.mono fun j hj => hj.elim (fun e => by rw [e]; exact Nat.le_refl _) fun e => (HOwn.out.apart j e).1)
          have HK5 := Lib.hid hk5
          have q1 := HQ1.out w5 hk5
          have CB : Hid (∀ k, Calls Try.prog 20 #[.pointer (some ⟨T, 0, none⟩), .int .i64 s] (w5.drewN k) fun e w' => e = .returned (.int .i64 x) ∧ ∃ m, w' = w5.drewN m) := by
            intro k
            refine (HTx.out (w5.drewN k) (Only.drewN HK5.out k)).mono ?_
            rintro e w' ⟨rfl, rfl⟩
            exact ⟨rfl, k, rfl⟩
          clear hw5 he5 ho5 ha5 hk5 HW
          go_wp2_with fail
          go_quiet (first | (go_at_call 20; exact CB.out _))
          go_wp2_with fail
          refine (HBt.out (w5.drewN nq) (Only.drewN HK5.out nq)).mono ?_
          rintro e w7 ⟨g7, rfl, hm7⟩
          have HM7 := Lib.hid hm7
          have HO7 := Lib.hid ((HO5.out.quiet ((Only.refl _ w5).drewN nq)).quiet hm7.2.1)
          have HK7 : Hid (Keep D wb w7) := Lib.hid ((Only.drewN HK5.out nq).trans (hm7.2.1.keep0 D))
          clear hm7 q1 CB
          go_wp2_with (at_builtin
                       first
                       | (refine wpList_append_brow rfl (.tmp 94) (.tmp 98) 39 39 5 rfl Try.underlying39 info5 Aw nw cw x (enc l th) (hb x (cd l s)) (.slice (some ⟨g7, 0, none⟩) x x) rfl rfl HO7.out.want (hb_length _ _) (See.src Try.underlying39 HM7.out.see (by rw [bcells_length, hb_length]) (bcells_one _)) (by omega) ?_
                          intro A8 c8 w8 hrow8 honly8 hlies8
                          have HO8 := Lib.hid (HO7.out.wants hrow8 honly8 hlies8)
                          have HK8 : Hid (Keep D wb w8) := Lib.hid (HK7.out.trans (honly8.mono fun j hj => (HO7.out.apartw j hj).1))
                          clear hrow8 honly8 hlies8)
                       | (refine wpList_append_row rfl (.tmp 100) (.tmp 102) 22 22 3 rfl Try.underlying22 info3 At nt ct 1 (ints th) [.int .i64 (s : Int)] (.slice (some ⟨w8.heap.size, 0, none⟩) 1 1) rfl rfl (HO8.out.quiet ((Only.refl _ w8).alloc _)).there rfl (Src.oneInt Try.underlying22 w8 .i64 (s : Int) 1 3) (by omega) (by omega) ?_
                          intro A9 c9 w9 hrow9 honly9 hlies9
                          have HO9 := Lib.hid ((HO8.out.quiet ((Only.refl _ w8).alloc _)).theres (th' := th ++ [s]) (by rw [ints_snoc]; exact hrow9) honly9 hlies9)
                          have HK9 : Hid (Keep D wb w9) := Lib.hid ((HK8.out.trans (((Only.refl _ w8).alloc _).keep0 D)).trans (honly9.mono fun j hj => (HO8.out.apartt j hj).1))
                          clear hrow9 honly9 hlies9))
          go_roundg (gk - 1)
          case measure => omega
          case rel =>
            refine ⟨k + 1, nw + x, c8, nt + 1, c9, A8, A9, by go_num, rfl, rfl, by omega, by omega, by omega, by omega, A5, n5, c5, l5, th ++ [s], ?_, ?_, HK9.out⟩
            · rw [enc_snoc, HX.out]
              exact HO9.out
            · intro t ht
              rcases List.mem_append.1 ht with e | e
              · exact HTh.out t e
              · rw [List.mem_singleton.1 e]
                exact HH.out
        · have h00 : ln l s = 0 := by omega
          rw [h00] at q1
          have hb0 := tbits_in T s l wr ht hsl
          rw [h00] at hb0
          have HB := Lib.hid hb0
          have HI : Hid (BackInv l wb D D Aw nw cw At nt ct wr) := Lib.hid ⟨A', n', c', lw, th, hown, hth, hkeep⟩
          clear hown hth hkeep ht hSl hCl h0 h00 hb0 hin
          go_wp2_with fail
          refine (twrite_none (some ⟨T, 0, none⟩) _ s wr HB.out).mono ?_
          rintro e w5 ⟨rfl, rfl⟩
          go_wp2_with fail
          refine HB.out.mono ?_
          rintro e w5 ⟨rfl, rfl⟩
          go_wp2_with fail
          go_roundg (gk - 1)
          case measure => omega
          case rel => exact ⟨k + 1, nw, cw, nt, ct, Aw, At, by go_num, rfl, rfl, by omega, by omega, by omega, by omega, HI.out⟩
      · have HB := Lib.hid (tbits_out T x l wr ht (by rw [HN.out]; omega))
        have HI : Hid (BackInv l wb D D Aw nw cw At nt ct wr) := Lib.hid ⟨A', n', c', lw, th, hown, hth, hkeep⟩
        clear hown hth hkeep ht hSl hCl
        by_cases hx0 : x < 0
        · have d0 : decide (x < 0) = true := by simpa using hx0
          clear hin
          go_wp2_with fail
          refine (twrite_none (some ⟨T, 0, none⟩) _ x wr HB.out).mono ?_
          rintro e w5 ⟨rfl, rfl⟩
          go_wp2_with fail
          refine HB.out.mono ?_
          rintro e w5 ⟨rfl, rfl⟩
          go_wp2_with fail
          go_roundg (gk - 1)
          case measure => omega
          case rel => exact ⟨k + 1, nw, cw, nt, ct, Aw, At, by go_num, rfl, rfl, by omega, by omega, by omega, by omega, HI.out⟩
        · have d0 : decide (x < 0) = false := by simpa using hx0
          have hx1 : (n : Int) ≤ x := by omega
          clear hin
          go_wp2_with fail
          refine (twrite_none (some ⟨T, 0, none⟩) _ x wr HB.out).mono ?_
          rintro e w5 ⟨rfl, rfl⟩
          go_wp2_with fail
          refine HB.out.mono ?_
          rintro e w5 ⟨rfl, rfl⟩
          go_wp2_with fail
          go_roundg (gk - 1)
          case measure => omega
          case rel => exact ⟨k + 1, nw, cw, nt, ct, Aw, At, by go_num, rfl, rfl, by omega, by omega, by omega, by omega, HI.out⟩
    · obtain ⟨A', n', c', lw, th, hown, hth, hkeep⟩ := hI
      have hnum := hown.numbers
      have HOwn := Lib.hid hown
      have HTh := Lib.hid hth
      have HKp := Lib.hid hkeep
      have HTl : Hid ((enc l th).length = nw ∧ th.length = nt) := Lib.hid hnum
      clear hown hth hkeep hnum
      go_wp2_with fail
      refine (text D A' n' c' (enc l th).length lw wr HOwn.out.wrt.wr).mono ?_
      rintro e w5 ⟨rfl, rfl⟩
      go_wp2_with fail
      refine (rtext Aw nw cw (enc l th) wr (Sees.of_row HOwn.out.want) (enc_bits l th) (by omega)).mono ?_
      rintro e w5 ⟨t, rfl, htl, htv, ho5⟩
      have hlw : lw.length = (nw + 7) / 8 := by
        have h1 := HOwn.out.wrt.wr.2.len
        have h2 := HOwn.out.wrt.len
        rw [HTl.out.1] at h2
        omega
      obtain rfl : t = lw := le_inj _ _ (by rw [htl, hlw]) (by rw [htv, HOwn.out.num])
      have HLw := Lib.hid hlw
      have HO5 := Lib.hid ho5
      have HOwn5 := Lib.hid (HOwn.out.quiet ho5)
      clear htl htv ho5 hlw
      go_wp2_with fail
      refine (text D A' n' c' (enc l th).length t w5 HOwn5.out.wrt.wr).mono ?_
      rintro e w6 ⟨rfl, rfl⟩
      go_wp2_with fail
      refine (newReader _ w5).mono ?_
      rintro e w6 ⟨rfl, rfl⟩
      have HR6 : Hid (Rd (w5.alloc (.cells #[.string ⟨t.toArray⟩, .int .i64 0, .bool false] 64)) w5.heap.size ⟨t.toArray⟩ 0 false) := Lib.hid (Is.new w5 64 _)
      have HO6 : Hid (Only (fun _ => False) w5 (w5.alloc (.cells #[.string ⟨t.toArray⟩, .int .i64 0, .bool false] 64))) := Lib.hid ((Only.refl _ w5).alloc _)
      obtain ⟨w6, hw6⟩ : ∃ w6, w5.alloc (.cells #[.string ⟨t.toArray⟩, .int .i64 0, .bool false] 64) = w6 := ⟨_, rfl⟩
      rw [hw6] at HR6 HO6
      try rw [hw6]
      obtain ⟨R, hR⟩ : ∃ R, w5.heap.size = R := ⟨_, rfl⟩
      have hDR : D ≤ R := by rw [← hR]; exact HOwn5.out.size
      have HLR : Hid (∀ j, Lies At j → ¬ j = R) := Lib.hid fun j hj e => by have := HOwn5.out.there.lies j hj; omega
      rw [hR] at HR6
      try rw [hR]
      clear hw6 hR
      have HRow6 : Hid (Row 3 w6 At nt ct (ints th)) := Lib.hid (HOwn5.out.quiet HO6.out).there
      have HK6 : Hid (Keep D wb w6) := Lib.hid ((HKp.out.trans (HO5.out.keep0 D)).trans (HO6.out.keep0 D))
      have HT6 : Hid (Tab w6 T l) := Lib.hid (HTb.out.keep (HK6.out.less (by omega)))
      go_wp2_with fail
      go_loopg [119] nt (fun gj i wx => ∃ j : Nat, i = .int .i64 j ∧ j + gj ≤ nt ∧ nt ≤ j + gj ∧ Rd wx R ⟨t.toArray⟩ (enc l (th.take j)).length false ∧ Only (· = R) w6 wx)
      case atStart => exact ⟨0, rfl, by omega, by omega, HR6.out, Only.refl _ _⟩
      case round =>
        obtain ⟨j, rfl, hj, hj2, hrd, hon⟩ := hrel
        by_cases hjn : j < nt
        · have hjt : j < th.length := by rw [HTl.out.2]; exact hjn
          have htab : Tab wr T l := HT6.out.keep (hon.keep _ fun i hi => by rw [hi]; omega)
          obtain ⟨g9, e9, q9, _⟩ := (HRow6.out.only hon HLR.out).cell (ints_at th j hjt)
          subst e9
          have hback := read_back l th t j HL.out HF.out HTh.out hjt HOwn.out.num (by rw [HLw.out, HTl.out.1])
          have hle : (enc l (th.take j)).length ≤ nw := by
            have := enc_at l th j hjt
            have h2 := congrArg List.length this
            rw [List.length_append, HTl.out.1] at h2
            omega
          have HRD := Lib.hid (tread T R ⟨t.toArray⟩ l (enc l (th.take j)).length wr htab hrd (by omega) HL.out (by rw [HN.out]; omega) (by show t.length ≤ _; rw [HLw.out]; omega) (by show _ ≤ 8 * t.length; rw [HLw.out]; omega))
          rw [show (ByteArray.mk t.toArray).data.toList = t from rfl, hback] at HRD
          obtain ⟨y, hy⟩ : ∃ y, ln th j = y := ⟨_, rfl⟩
          rw [hy] at HRD q9
          have HON := Lib.hid hon
          clear htab hback hle hrd hon hy hjt
          go_wp2_with fail
          refine HRD.out.mono ?_
          rintro e w7 ⟨rfl, hrd7, ho7⟩
          have HRD7 := Lib.hid (hrd7 rfl)
          have HO7 := Lib.hid ho7
          clear hrd7 ho7 HRD
          go_wp2_with fail
          go_roundg (gk - 1)
          case measure => omega
          case rel => exact ⟨j + 1, by go_num, by omega, by omega, HRD7.out, HON.out.trans HO7.out⟩
        · have HON := Lib.hid hon
          clear hrd hon
          go_wp2_with fail
          refine (read_nil _ wr).mono ?_
          rintro e w7 ⟨rfl, rfl⟩
          go_wp2_with fail
          refine (twrite_none none _ 0 wr (tbits_nil 0 wr)).mono ?_
          rintro e w7 ⟨rfl, rfl⟩
          go_wp2_with fail
          refine (tbits_nil 0 wr).mono ?_
          rintro e w7 ⟨rfl, rfl⟩
          go_wp2
          go_ret
          refine ⟨rfl, HOb.out.andThen (HK6.out.trans (HON.out.mono fun i hi => by rw [hi]; exact hDR)) fun i hi => .inr (Nat.le_trans hwD hi)⟩
end Go.Proofs.Ytfobkknbhflnbaa
