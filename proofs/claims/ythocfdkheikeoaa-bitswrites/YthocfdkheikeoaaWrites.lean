/- BitsWrites of layer 1: whatever is put, the bytes are the document's. -/
import Derived.Test.YthocfdkheikeoaaBoth
namespace Go.Proofs.Ythocfdkheikeoaa.Writes
open Go.RowKit

theorem St_alloc {B bw bv K : Nat} {F : List UInt8 → List UInt8} {w0 w : World} (h : St B bw bv K F w0 w) (hB : B ≤ w.heap.size) (o : Obj) : St B bw bv K F w0 (w.alloc o) := by
  obtain ⟨A, n, c, l, A2, n2, c2, bl, h1, h2, h3, h4, h5, h5', h6, h7, h8, h9⟩ := h
  exact ⟨A, n, c, l, A2, n2, c2, bl, ⟨⟨h1.wr.1.alloc o, h1.wr.2.alloc o⟩, h1.len, h1.lt⟩, h2, h3, h4, ⟨h5.1.alloc o, h5.2.alloc o⟩, h5', h6.alloc hB o, h7, h8, h9⟩
theorem St_below {B bw bv K : Nat} {F : List UInt8 → List UInt8} {w0 w : World} (h : St B bw bv K F w0 w) : Below B w0 w := by
  obtain ⟨A, n, c, l, A2, n2, c2, bl, h1, h2, h3, h4, h5, h5', h6, h7, h8, h9⟩ := h
  exact h6
theorem St_mono {B bw bv K K' : Nat} {F : List UInt8 → List UInt8} {w0 w : World} (h : St B bw bv K F w0 w) (hK : K ≤ K') : St B bw bv K' F w0 w := by
  obtain ⟨A, n, c, l, A2, n2, c2, bl, h1, h2, h3, h4, h5, h5', h6, h7, h8, h9⟩ := h
  exact ⟨A, n, c, l, A2, n2, c2, bl, h1, h2, h3, by omega, h5, by omega, h6, h7, h8, h9⟩

theorem St_only {B bw bv K : Nat} {F : List UInt8 → List UInt8} {w0 w w' : World} (h : St B bw bv K F w0 w) (hB : B ≤ w.heap.size) (ho : Only (fun _ => False) w.drew w') : St B bw bv K F w0 w' := by
  obtain ⟨A, n, c, l, A2, n2, c2, bl, h1, h2, h3, h4, h5, h5', h6, h7, h8, h9⟩ := h
  exact ⟨A, n, c, l, A2, n2, c2, bl, ⟨⟨h1.wr.1.drew.only ho id, h1.wr.2.drew.only ho (fun _ _ => id)⟩, h1.len, h1.lt⟩, h2, h3, h4, ⟨h5.1.drew.only ho id, h5.2.drew.only ho (fun _ _ => id)⟩, h5', below_only h6.drew ho hB (fun _ f => f.elim), h7, h8, h9⟩

set_option maxHeartbeats 4000000 in
theorem walk (A : Option Addr) (n c : Nat) (ds : List Dd) (w : World) (hD : Deeds w w.heap.size A n ds) (hn : n ≤ maxLen) :
    Calls Try.prog 4 #[.slice A n c] w fun e w' => e = .returned (.bool true) ∧ Below w.heap.size w w' := by
  unfold maxLen at hn
  have HD := Lib.hid hD
  clear hD
  by_cases h60 : 60 < n
  · go_enter Try.func4, Try.ntmps4
    go_wp2_with (go_at_call 7; refine (awake _).mono ?_; rintro e w1 ⟨rfl, hb⟩; have HB := Lib.hid hb; clear hb)
    go_ret
    exact ⟨rfl, HB.out⟩
  · go_enter Try.func4, Try.ntmps4
    go_wp2_with fail
    refine (awake _).mono ?_
    rintro e w1 ⟨rfl, hb⟩
    have HB := Lib.hid hb
    clear hb
    go_wp2_with fail
    refine (newWriter w1).mono ?_
    rintro e w2 ⟨rfl, hw2⟩
    have hI : Is w2 w1.heap.size 56 [.slice none 0 0, .int .i64 0] := by rw [hw2]; exact Is.new w1 56 _
    have hB2 : Below w.heap.size w w2 := by rw [hw2]; exact HB.out.alloc HB.out.size _
    have hs1 : w.heap.size ≤ w1.heap.size := HB.out.size
    have hs2 : w1.heap.size < w2.heap.size := hI.lt
    obtain ⟨bw, hbw⟩ : ∃ bw, w1.heap.size = bw := ⟨_, rfl⟩
    rw [hbw] at hI hs1 hs2 ⊢
    have HI := Lib.hid hI
    have HB2 := Lib.hid hB2
    clear hI hB2 hw2 hbw HB
    go_wp2_with fail
    have hS : St w.heap.size bw w2.heap.size 0 (fun x => x) w (w2.alloc (.cells #[.slice none 0 0] 44)) := by
      refine ⟨none, 0, 0, [], none, 0, 0, [], ⟨⟨HI.out.alloc _, Row.nil 5 _⟩, rfl, by decide⟩, rfl, (fun x hx => by cases hx), Nat.le_refl _, ⟨Is.new w2 44 _, Row.nil 5 _⟩, Nat.le_refl _, HB2.out.alloc HB2.out.size _, ?_, ?_, ?_⟩
      · rintro j ⟨ad, e, _⟩; cases e
      · rintro j ⟨ad, e, _⟩; cases e
      · rintro j ⟨ad, e, _⟩; cases e
    obtain ⟨bv, hbv⟩ : ∃ bv, w2.heap.size = bv := ⟨_, rfl⟩
    rw [hbv] at hs2 hS ⊢
    have hne : bw ≠ bv := by omega
    have hb1 : w.heap.size ≤ bv := by omega
    obtain ⟨w3, hw3⟩ : ∃ w3, w2.alloc (.cells #[.slice none 0 0] 44) = w3 := ⟨_, rfl⟩
    rw [hw3] at hS ⊢
    have HS := Lib.hid hS
    have HNE := Lib.hid hne
    clear hS hw3 hbv HI HB2 hne
    go_wp2_with fail
    go_loopg [17] n (fun gk i wx => ∃ k : Nat, i = .int .i64 k ∧ k + gk ≤ n ∧ n ≤ k + gk ∧ St w.heap.size bw bv (407 * k) (fun x => x) w wx)
    case atStart => exact ⟨0, rfl, by omega, by omega, HS.out⟩
    case round =>
      obtain ⟨k, rfl, hk, hk2, hP⟩ := hrel
      have HP := Lib.hid hP
      have hB' := St_below hP
      have hsz : w.heap.size ≤ wr.heap.size := hB'.size
      have HB' := Lib.hid hB'
      clear hP hB' HS
      by_cases hlt : k < n
      · obtain ⟨d, hd⟩ : ∃ d, ds[k]? = some d := ⟨ds[k]'(by rw [HD.out.1]; exact hlt), by simp [HD.out.1, hlt]⟩
        obtain ⟨h1, h2, h3, ba, off, hA, hba, c0, c1, c2, c3⟩ := (HD.out.below HB'.out).2 k d hd
        unfold maxLen at h3
        subst hA
        clear hd
        by_cases h50 : 50 < d.s.size
        · go_wp2
          go_ret
          exact ⟨rfl, HB'.out.alloc hsz _⟩
        · have hkinds : d.k % 4 = 0 ∨ d.k % 4 = 1 ∨ d.k % 4 = 2 ∨ d.k % 4 = 3 := by omega
          have HG1 : Hid (wr.heap.size ≠ bw) := by
            obtain ⟨_, _, _, _, _, _, _, _, h, _⟩ := HP.out
            have := h.wr.1.lt
            show wr.heap.size ≠ bw
            omega
          rcases hkinds with h4 | h4 | h4 | h4
          · have e0 : ((d.k : Int) % 4 == 0) = true := by rw [beq_iff_eq]; omega
            clear h4
            go_wp2_with fail
            obtain ⟨wa, hwa⟩ : ∃ wa, wr.alloc (.cells #[.int .u8 d.k, .int .u32 d.v, .int .i64 d.n, .string d.s] 33) = wa := ⟨_, rfl⟩
            obtain ⟨g, hg⟩ : ∃ g, wr.heap.size = g := ⟨_, rfl⟩
            have HIa : Hid (Is wa g 33 [.int .u8 d.k, .int .u32 d.v, .int .i64 d.n, .string d.s]) := by rw [← hwa, ← hg]; exact Is.new wr 33 _
            have HPa : Hid (St w.heap.size bw bv (407 * k) (fun x => x) w wa) := by rw [← hwa]; exact St_alloc HP.out hsz _
            rw [hwa]
            rw [hg] at HG1
            try rw [hg]
            clear hwa hg c0 c1 c2 c3
            refine (put_both w.heap.size bw bv (407 * k) d.v d.n w wa HPa.out hs1 HNE.out (by omega) h2).mono ?_
            rintro e w4 ⟨rfl, hS4, hk4⟩
            have hI4 := hk4 g 33 _ HIa.out (by decide) (fun e => HG1.out e)
            have c0 := hI4.cell 0 rfl
            have c1 := hI4.cell 1 rfl
            have c2 := hI4.cell 2 rfl
            have c3 := hI4.cell 3 rfl
            have HS4 := Lib.hid hS4
            clear hS4 hk4 hI4
            go_wp2_with fail
            refine (St.second hb1 HNE.out (Nat.le_trans (Nat.le_refl _) (St_below HS4.out).size) HS4.out (fun A2 n2 c2 bl hr hn2 => rput bv A2 n2 c2 d.v d.n bl w4 hr (by omega) h2)).mono ?_
            rintro e w5 ⟨rfl, hS5, hk5⟩
            have HS5 := Lib.hid (St_mono hS5 (show _ ≤ 407 * (k + 1) by omega))
            clear hS5 hk5 HS4 c0 c1 c2 c3
            go_upto_region 22 with fail
            obtain ⟨A1, n1, cc1, l1, A2, n2, cc2, bl, p1, p2, p3, p4, p5, p5', p6, p7, p8, p9⟩ := HS5.out
            dsimp only at p1 p2 p3 p4
            rw [p5.2.len] at p1 p4
            have cB := p5.1.cell 0 rfl
            have HW5 : Hid (Wr w5.drew bw A1 n1 cc1 n2 l1) := p1.wr
            have HV5 : Hid (RW w5.drew bv A2 n2 cc2 bl) := p5
            have HL5 : Hid (l1.length = (n2 + 7) / 8) := by rw [← p1.len]; exact p1.wr.2.len
            have HE5 := Lib.hid p2
            have HBits := Lib.hid p3
            clear p1 p2 p3 p5 p6 p7 p8 p9
            go_region_held3 (fun w' => w'.cell? ⟨bv, 0, none⟩ = some (.slice A2 n2 cc2)) (first | assumption)
              (first
                | (go_at_call 26; refine (len bw A1 n1 cc1 n2 l1 w5.drew HW5.out).mono ?_; rintro e w' ⟨rfl, rfl⟩)
                | (go_at_call 27; refine (text bw A1 n1 cc1 n2 l1 w5.drew HW5.out).mono ?_; rintro e w' ⟨rfl, rfl⟩)
                | (go_at_call 28; refine (rtext A2 n2 cc2 bl w5.drew (Sees.of_row HV5.out.2) HBits.out (by omega)).mono ?_; rintro e w6 ⟨t, rfl, ht1, ht2, ho6⟩; obtain rfl : t = l1 := le_inj _ _ (by rw [ht1, HL5.out]) (by rw [ht2, HE5.out]); have c6 : w6.cell? ⟨bv, 0, none⟩ = some (.slice A2 n2 cc2) := (HV5.out.1.only ho6 id).cell 0 rfl; have HO6 := Lib.hid ho6; clear ho6 ht1 ht2))
            go_wp2
            go_roundg (gk - 1)
            case measure => omega
            case rel => exact ⟨k + 1, by go_num, by omega, by omega, St_only HS5.out (St_below HS5.out).size HO6.out⟩
          · have e0 : ((d.k : Int) % 4 == 0) = false := by rw [beq_eq_false_iff_ne]; omega
            have e1 : ((d.k : Int) % 4 == 1) = true := by rw [beq_iff_eq]; omega
            clear h4
            go_wp2_with fail
            obtain ⟨wa, hwa⟩ : ∃ wa, wr.alloc (.cells #[.int .u8 d.k, .int .u32 d.v, .int .i64 d.n, .string d.s] 33) = wa := ⟨_, rfl⟩
            obtain ⟨g, hg⟩ : ∃ g, wr.heap.size = g := ⟨_, rfl⟩
            have HIa : Hid (Is wa g 33 [.int .u8 d.k, .int .u32 d.v, .int .i64 d.n, .string d.s]) := by rw [← hwa, ← hg]; exact Is.new wr 33 _
            have HPa : Hid (St w.heap.size bw bv (407 * k) (fun x => x) w wa) := by rw [← hwa]; exact St_alloc HP.out hsz _
            rw [hwa]
            rw [hg] at HG1
            try rw [hg]
            clear hwa hg c0 c1 c2 c3
            refine (put_both w.heap.size bw bv (407 * k) d.v d.n w wa HPa.out hs1 HNE.out (by omega) h2).mono ?_
            rintro e w4 ⟨rfl, hS4, hk4⟩
            have hI4 := hk4 g 33 _ HIa.out (by decide) (fun e => HG1.out e)
            have c0 := hI4.cell 0 rfl
            have c1 := hI4.cell 1 rfl
            have c2 := hI4.cell 2 rfl
            have c3 := hI4.cell 3 rfl
            have HS4 := Lib.hid hS4
            clear hS4 hk4 hI4
            go_wp2_with fail
            refine (St.second hb1 HNE.out (Nat.le_trans (Nat.le_refl _) (St_below HS4.out).size) HS4.out (fun A2 n2 c2 bl hr hn2 => rput bv A2 n2 c2 d.v d.n bl w4 hr (by omega) h2)).mono ?_
            rintro e w5 ⟨rfl, hS5, hk5⟩
            have HS5 := Lib.hid (St_mono hS5 (show _ ≤ 407 * (k + 1) by omega))
            clear hS5 hk5 HS4 c0 c1 c2 c3
            go_upto_region 22 with fail
            obtain ⟨A1, n1, cc1, l1, A2, n2, cc2, bl, p1, p2, p3, p4, p5, p5', p6, p7, p8, p9⟩ := HS5.out
            dsimp only at p1 p2 p3 p4
            rw [p5.2.len] at p1 p4
            have cB := p5.1.cell 0 rfl
            have HW5 : Hid (Wr w5.drew bw A1 n1 cc1 n2 l1) := p1.wr
            have HV5 : Hid (RW w5.drew bv A2 n2 cc2 bl) := p5
            have HL5 : Hid (l1.length = (n2 + 7) / 8) := by rw [← p1.len]; exact p1.wr.2.len
            have HE5 := Lib.hid p2
            have HBits := Lib.hid p3
            clear p1 p2 p3 p5 p6 p7 p8 p9
            go_region_held3 (fun w' => w'.cell? ⟨bv, 0, none⟩ = some (.slice A2 n2 cc2)) (first | assumption)
              (first
                | (go_at_call 26; refine (len bw A1 n1 cc1 n2 l1 w5.drew HW5.out).mono ?_; rintro e w' ⟨rfl, rfl⟩)
                | (go_at_call 27; refine (text bw A1 n1 cc1 n2 l1 w5.drew HW5.out).mono ?_; rintro e w' ⟨rfl, rfl⟩)
                | (go_at_call 28; refine (rtext A2 n2 cc2 bl w5.drew (Sees.of_row HV5.out.2) HBits.out (by omega)).mono ?_; rintro e w6 ⟨t, rfl, ht1, ht2, ho6⟩; obtain rfl : t = l1 := le_inj _ _ (by rw [ht1, HL5.out]) (by rw [ht2, HE5.out]); have c6 : w6.cell? ⟨bv, 0, none⟩ = some (.slice A2 n2 cc2) := (HV5.out.1.only ho6 id).cell 0 rfl; have HO6 := Lib.hid ho6; clear ho6 ht1 ht2))
            go_wp2
            go_roundg (gk - 1)
            case measure => omega
            case rel => exact ⟨k + 1, by go_num, by omega, by omega, St_only HS5.out (St_below HS5.out).size HO6.out⟩
          · have e0 : ((d.k : Int) % 4 == 0) = false := by rw [beq_eq_false_iff_ne]; omega
            have e1 : ((d.k : Int) % 4 == 1) = false := by rw [beq_eq_false_iff_ne]; omega
            have e2 : ((d.k : Int) % 4 == 2) = true := by rw [beq_iff_eq]; omega
            clear h4
            go_wp2_with fail
            obtain ⟨wa, hwa⟩ : ∃ wa, wr.alloc (.cells #[.int .u8 d.k, .int .u32 d.v, .int .i64 d.n, .string d.s] 33) = wa := ⟨_, rfl⟩
            obtain ⟨g, hg⟩ : ∃ g, wr.heap.size = g := ⟨_, rfl⟩
            have HIa : Hid (Is wa g 33 [.int .u8 d.k, .int .u32 d.v, .int .i64 d.n, .string d.s]) := by rw [← hwa, ← hg]; exact Is.new wr 33 _
            have HPa : Hid (St w.heap.size bw bv (407 * k) (fun x => x) w wa) := by rw [← hwa]; exact St_alloc HP.out hsz _
            rw [hwa]
            rw [hg] at HG1
            try rw [hg]
            clear hwa hg c0 c1 c2 c3
            refine (align_both w.heap.size bw bv (407 * k) w wa HPa.out hs1 HNE.out (by omega)).mono ?_
            rintro e w4 ⟨rfl, hS4, hk4⟩
            have hI4 := hk4 g 33 _ HIa.out (by decide) (fun e => HG1.out e)
            have c0 := hI4.cell 0 rfl
            have c1 := hI4.cell 1 rfl
            have c2 := hI4.cell 2 rfl
            have c3 := hI4.cell 3 rfl
            have HS4 := Lib.hid hS4
            clear hS4 hk4 hI4
            go_wp2_with fail
            refine (St.second hb1 HNE.out (Nat.le_trans (Nat.le_refl _) (St_below HS4.out).size) HS4.out (fun A2 n2 c2 bl hr hn2 => by rw [show fAlign bl = bl ++ List.replicate ((n2 + 7) / 8 * 8 - n2) 0 from by rw [fAlign, hr.2.len]]; exact ralign bv A2 n2 c2 bl w4 hr (by omega))).mono ?_
            rintro e w5 ⟨rfl, hS5, hk5⟩
            have HS5 := Lib.hid (St_mono hS5 (show _ ≤ 407 * (k + 1) by omega))
            clear hS5 hk5 HS4 c0 c1 c2 c3
            go_upto_region 22 with fail
            obtain ⟨A1, n1, cc1, l1, A2, n2, cc2, bl, p1, p2, p3, p4, p5, p5', p6, p7, p8, p9⟩ := HS5.out
            dsimp only at p1 p2 p3 p4
            rw [p5.2.len] at p1 p4
            have cB := p5.1.cell 0 rfl
            have HW5 : Hid (Wr w5.drew bw A1 n1 cc1 n2 l1) := p1.wr
            have HV5 : Hid (RW w5.drew bv A2 n2 cc2 bl) := p5
            have HL5 : Hid (l1.length = (n2 + 7) / 8) := by rw [← p1.len]; exact p1.wr.2.len
            have HE5 := Lib.hid p2
            have HBits := Lib.hid p3
            clear p1 p2 p3 p5 p6 p7 p8 p9
            go_region_held3 (fun w' => w'.cell? ⟨bv, 0, none⟩ = some (.slice A2 n2 cc2)) (first | assumption)
              (first
                | (go_at_call 26; refine (len bw A1 n1 cc1 n2 l1 w5.drew HW5.out).mono ?_; rintro e w' ⟨rfl, rfl⟩)
                | (go_at_call 27; refine (text bw A1 n1 cc1 n2 l1 w5.drew HW5.out).mono ?_; rintro e w' ⟨rfl, rfl⟩)
                | (go_at_call 28; refine (rtext A2 n2 cc2 bl w5.drew (Sees.of_row HV5.out.2) HBits.out (by omega)).mono ?_; rintro e w6 ⟨t, rfl, ht1, ht2, ho6⟩; obtain rfl : t = l1 := le_inj _ _ (by rw [ht1, HL5.out]) (by rw [ht2, HE5.out]); have c6 : w6.cell? ⟨bv, 0, none⟩ = some (.slice A2 n2 cc2) := (HV5.out.1.only ho6 id).cell 0 rfl; have HO6 := Lib.hid ho6; clear ho6 ht1 ht2))
            go_wp2
            go_roundg (gk - 1)
            case measure => omega
            case rel => exact ⟨k + 1, by go_num, by omega, by omega, St_only HS5.out (St_below HS5.out).size HO6.out⟩
          · have e0 : ((d.k : Int) % 4 == 0) = false := by rw [beq_eq_false_iff_ne]; omega
            have e1 : ((d.k : Int) % 4 == 1) = false := by rw [beq_eq_false_iff_ne]; omega
            have e2 : ((d.k : Int) % 4 == 2) = false := by rw [beq_eq_false_iff_ne]; omega
            have e3 : ((d.k : Int) % 4 == 3) = true := by rw [beq_iff_eq]; omega
            clear h4
            go_wp2_with fail
            obtain ⟨wa, hwa⟩ : ∃ wa, wr.alloc (.cells #[.int .u8 d.k, .int .u32 d.v, .int .i64 d.n, .string d.s] 33) = wa := ⟨_, rfl⟩
            obtain ⟨g, hg⟩ : ∃ g, wr.heap.size = g := ⟨_, rfl⟩
            have HIa : Hid (Is wa g 33 [.int .u8 d.k, .int .u32 d.v, .int .i64 d.n, .string d.s]) := by rw [← hwa, ← hg]; exact Is.new wr 33 _
            have HPa : Hid (St w.heap.size bw bv (407 * k) (fun x => x) w wa) := by rw [← hwa]; exact St_alloc HP.out hsz _
            rw [hwa]
            rw [hg] at HG1
            try rw [hg]
            clear hwa hg c0 c1 c2 c3
            refine (write_both w.heap.size bw bv (407 * k) d.s w wa HPa.out hs1 HNE.out (by omega) (by omega)).mono ?_
            rintro e w4 ⟨rfl, hS4, hk4⟩
            have hI4 := hk4 g 33 _ HIa.out (by decide) (fun e => HG1.out e)
            have c0 := hI4.cell 0 rfl
            have c1 := hI4.cell 1 rfl
            have c2 := hI4.cell 2 rfl
            have c3 := hI4.cell 3 rfl
            have HS4 := Lib.hid hS4
            clear hS4 hk4 hI4
            go_wp2_with fail
            refine (St.second hb1 HNE.out (Nat.le_trans (Nat.le_refl _) (St_below HS4.out).size) HS4.out (fun A2 n2 c2 bl hr hn2 => by rw [show fWrite d.s bl = bl ++ List.replicate ((n2 + 7) / 8 * 8 - n2) 0 ++ bitsOf d.s.data.toList from by rw [fWrite, hr.2.len]]; exact rwrite bv A2 n2 c2 bl d.s w4 hr (by omega) (by omega))).mono ?_
            rintro e w5 ⟨rfl, hS5, hk5⟩
            have HS5 := Lib.hid (St_mono hS5 (show _ ≤ 407 * (k + 1) by omega))
            clear hS5 hk5 HS4 c0 c1 c2 c3
            go_upto_region 22 with fail
            obtain ⟨A1, n1, cc1, l1, A2, n2, cc2, bl, p1, p2, p3, p4, p5, p5', p6, p7, p8, p9⟩ := HS5.out
            dsimp only at p1 p2 p3 p4
            rw [p5.2.len] at p1 p4
            have cB := p5.1.cell 0 rfl
            have HW5 : Hid (Wr w5.drew bw A1 n1 cc1 n2 l1) := p1.wr
            have HV5 : Hid (RW w5.drew bv A2 n2 cc2 bl) := p5
            have HL5 : Hid (l1.length = (n2 + 7) / 8) := by rw [← p1.len]; exact p1.wr.2.len
            have HE5 := Lib.hid p2
            have HBits := Lib.hid p3
            clear p1 p2 p3 p5 p6 p7 p8 p9
            go_region_held3 (fun w' => w'.cell? ⟨bv, 0, none⟩ = some (.slice A2 n2 cc2)) (first | assumption)
              (first
                | (go_at_call 26; refine (len bw A1 n1 cc1 n2 l1 w5.drew HW5.out).mono ?_; rintro e w' ⟨rfl, rfl⟩)
                | (go_at_call 27; refine (text bw A1 n1 cc1 n2 l1 w5.drew HW5.out).mono ?_; rintro e w' ⟨rfl, rfl⟩)
                | (go_at_call 28; refine (rtext A2 n2 cc2 bl w5.drew (Sees.of_row HV5.out.2) HBits.out (by omega)).mono ?_; rintro e w6 ⟨t, rfl, ht1, ht2, ho6⟩; obtain rfl : t = l1 := le_inj _ _ (by rw [ht1, HL5.out]) (by rw [ht2, HE5.out]); have c6 : w6.cell? ⟨bv, 0, none⟩ = some (.slice A2 n2 cc2) := (HV5.out.1.only ho6 id).cell 0 rfl; have HO6 := Lib.hid ho6; clear ho6 ht1 ht2))
            go_wp2
            go_roundg (gk - 1)
            case measure => omega
            case rel => exact ⟨k + 1, by go_num, by omega, by omega, St_only HS5.out (St_below HS5.out).size HO6.out⟩
      · go_wp2
        go_ret
        exact ⟨rfl, HB'.out⟩
end Go.Proofs.Ythocfdkheikeoaa.Writes
