/- Layer 7: TokenExpands, the law's own walk. -/
import Derived.Test.YtngpameophckeaaLaw2
import Derived.Test.YtngpameophckeaaRefExpand
namespace Go.Proofs.Ytngpameophckeaa
open Go.RowKit

theorem Only.cellAt {w w' : World} {a : Addr} {v : Value} (h : Only (fun _ => False) w w') (hc : w.cell? a = some v) : w'.cell? a = some v := (World.cell?_of_block (h.block a.block (cell_lt hc) (fun f => f))).trans hc

set_option maxRecDepth 100000 in
set_option maxHeartbeats 8000000 in
theorem law1 (A : Option Addr) (n c : Nat) (ts : List Tk) (most : Int) (w : World) (h : See w w.heap.size A (tks ts)) (hn : ts.length = n) (hb1 : -9223372036854775808 ≤ most) (hb2 : most ≤ 9223372036854775807) : Calls Try.prog 3 #[.slice A n c, .int .i64 most] w (Yes w) := by
  have HS := Lib.hid h
  have HN := Lib.hid hn
  have HB1 := Lib.hid hb1
  have HB2 := Lib.hid hb2
  clear h hn hb1 hb2
  by_cases h60 : n ≤ 60
  · obtain ⟨r, hr⟩ : ∃ r, expandF most ts [] = r := ⟨_, rfl⟩
    have HR := Lib.hid hr
    clear hr
    obtain ⟨rl, re⟩ := r
    go_enter Try.func3, Try.ntmps3
    go_wp2_with (first
      | (go_at_call 6; refine (awake _).mono ?_; rintro e w1 ⟨rfl, ho⟩; have HO1 := Lib.hid ho; clear ho)
      | (go_at_call 7; refine (expand A n c _ ts most _ (HS.out.new HO1.out) HN.out h60).mono ?_; rintro e w2 ⟨rfl, ho⟩; rw [HR.out]; have HO2 := Lib.hid ho; clear ho)
      | (go_at_call 8; refine (rexpand A n c _ ts most _ ((HS.out.new HO1.out).new HO2.out) HN.out h60 HB1.out HB2.out).mono ?_; rintro e w3 ⟨rfl, ho⟩; rw [HR.out]; have HO3 := Lib.hid ho; clear ho))
    have HO : Hid (Only (fun _ => False) w w3) := Lib.hid ((HO1.out.trans HO2.out).trans HO3.out)
    clear HO1 HO2 HO3
    go_loopg [38] n (fun gk i wx => ∃ (j : Nat), i = .int .i64 j ∧ j + gk ≤ n ∧ n ≤ j + gk ∧ Hid (Only (fun _ => False) w wx))
    case atStart => exact ⟨0, rfl, by omega, by omega, HO⟩
    case round =>
      clear HO
      obtain ⟨j, rfl, hg1, hg2, HO⟩ := hrel
      by_cases hlt : j < n
      · obtain ⟨t, ht⟩ : ∃ t, ts[j]? = some t := ⟨ts[j]'(by rw [HN.out]; exact hlt), by simp [HN.out, hlt]⟩
        obtain ⟨b0, off, rfl, _, c0, c1, c2⟩ := (HS.out.new HO.out).token j t ht
        clear ht
        obtain ⟨b, tn, tk⟩ := t
        simp only at c0 c1 c2
        go_upto_region 12 with fail
        obtain ⟨wa, hwa⟩ : ∃ wa, wr.alloc (.cells #[.int .u8 b.toNat, .int .i64 tn, .int .i64 tk] 30) = wa := ⟨_, rfl⟩
        obtain ⟨g, hg⟩ : ∃ g, wr.heap.size = g := ⟨_, rfl⟩
        have hIa : Is wa g 30 (tkc ⟨b, tn, tk⟩) := by rw [← hwa, ← hg]; exact Is.new wr 30 _
        have HOa : Hid (Only (fun _ => False) w wa) := Lib.hid (hwa ▸ HO.out.alloc _)
        have ca0 := hIa.cell 0 rfl
        have ca1 := hIa.cell 1 rfl
        have ca2 := hIa.cell 2 rfl
        rw [hwa, hg]
        clear hwa hg hIa HO c0 c1 c2
        obtain ⟨q, hq⟩ : ∃ q, mayB ⟨b, tn, tk⟩ = q := ⟨_, rfl⟩
        have HQ := Lib.hid hq
        clear hq
        go_region_held3 (fun W => W.cell? ⟨g, 0, none⟩ = some (.int .u8 b.toNat) ∧ W.cell? ⟨g, 1, none⟩ = some (.int .i64 tn) ∧ W.cell? ⟨g, 2, none⟩ = some (.int .i64 tk)) (first | exact ⟨ca0, ca1, ca2⟩ | exact ⟨by assumption, by assumption, by assumption⟩)
          (first
            | (go_at_call 9; refine (may ⟨b, tn, tk⟩ _).mono ?_; rintro e w5 ⟨rfl, ho5⟩; rw [HQ.out]
               have k0 : w5.cell? ⟨g, 0, none⟩ = some (.int .u8 b.toNat) := ho5.cellAt (by first | assumption | exact ca0)
               have k1 : w5.cell? ⟨g, 1, none⟩ = some (.int .i64 tn) := ho5.cellAt (by first | assumption | exact ca1)
               have k2 : w5.cell? ⟨g, 2, none⟩ = some (.int .i64 tk) := ho5.cellAt (by first | assumption | exact ca2)
               have HO5 := Lib.hid ho5; clear ho5)
            | (go_at_call 10; refine (rmay ⟨b, tn, tk⟩ _).mono ?_; rintro e w6 ⟨rfl, ho6⟩; rw [HQ.out]
               have k0 : w6.cell? ⟨g, 0, none⟩ = some (.int .u8 b.toNat) := ho6.cellAt (by first | assumption | exact ca0)
               have k1 : w6.cell? ⟨g, 1, none⟩ = some (.int .i64 tn) := ho6.cellAt (by first | assumption | exact ca1)
               have k2 : w6.cell? ⟨g, 2, none⟩ = some (.int .i64 tk) := ho6.cellAt (by first | assumption | exact ca2)
               have HO6 := Lib.hid ho6; clear ho6))
        go_wp2
        go_roundg (gk - 1)
        case measure => omega
        case rel => exact ⟨j + 1, by go_num, by omega, by omega, Lib.hid ((HOa.out.drew.trans HO5.out).trans HO6.out)⟩
      · obtain rfl : j = n := by omega
        go_wp2
        go_ret
        exact ⟨rfl, HO.out⟩
  · go_enter Try.func3, Try.ntmps3
    go_wp2_with (go_at_call 6; refine (awake _).mono ?_; rintro e w1 ⟨rfl, ho⟩; have HO1 := Lib.hid ho; clear ho)
    go_ret
    exact ⟨rfl, HO1.out⟩
end Go.Proofs.Ytngpameophckeaa
