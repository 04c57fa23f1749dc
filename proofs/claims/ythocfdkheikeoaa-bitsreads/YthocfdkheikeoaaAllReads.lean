/- BitsReads of layer 1: whatever a reader is asked, it answers as the document says. -/
import Derived.Test.YthocfdkheikeoaaPair
import Derived.Deep.RegionHeld3
namespace Go.Proofs.Ythocfdkheikeoaa.AllReads
open Go.RowKit

set_option maxHeartbeats 8000000 in
set_option maxRecDepth 100000 in
theorem walk (s : ByteArray) (A : Option Addr) (n c : Nat) (ds : List Dd) (w : World) (hD : Deeds w w.heap.size A n ds) (hn : n ≤ maxLen) (hs : s.size ≤ maxLen) :
    Calls Try.prog 3 #[.string s, .slice A n c] w fun e w' => e = .returned (.bool true) ∧ Below w.heap.size w w' := by
  unfold maxLen at hn hs
  have HD := Lib.hid hD
  clear hD
  by_cases hbig : 100 < s.size ∨ 60 < n
  · by_cases h100 : 100 < s.size
    · have d1 : decide ((100 : Int) < s.size) = true := by simp; omega
      clear hbig
      go_enter Try.func3, Try.ntmps3
      go_wp2_with (go_at_call 7; refine (awake _).mono ?_; rintro e w1 ⟨rfl, hb⟩; have HB := Lib.hid hb; clear hb)
      go_ret
      exact ⟨rfl, HB.out⟩
    · have d1 : decide ((100 : Int) < s.size) = false := by simp; omega
      have d2 : decide ((60 : Int) < n) = true := by simp; omega
      clear hbig
      go_enter Try.func3, Try.ntmps3
      go_wp2_with (go_at_call 7; refine (awake _).mono ?_; rintro e w1 ⟨rfl, hb⟩; have HB := Lib.hid hb; clear hb)
      go_ret
      exact ⟨rfl, HB.out⟩
  · have d1 : decide ((100 : Int) < s.size) = false := by simp; omega
    have d2 : decide ((60 : Int) < n) = false := by simp; omega
    have hs100 : s.size ≤ 100 := by omega
    have hn60 : n ≤ 60 := by omega
    clear hbig
    go_enter Try.func3, Try.ntmps3
    go_wp2_with fail
    refine (awake _).mono ?_
    rintro e w1 ⟨rfl, hb⟩
    have HB := Lib.hid hb
    clear hb
    go_wp2_with fail
    refine (newReader s w1).mono ?_
    rintro e w2 ⟨rfl, hw2⟩
    have hI : Rd w2 w1.heap.size s 0 false := by rw [hw2]; exact Is.new w1 53 _
    have hB2 : Below w.heap.size w w2 := by rw [hw2]; exact HB.out.alloc HB.out.size _
    have hb1 : w.heap.size ≤ w1.heap.size := HB.out.size
    obtain ⟨rb, hrb⟩ : ∃ rb, w1.heap.size = rb := ⟨_, rfl⟩
    rw [hrb] at hI hb1 ⊢
    have HI := Lib.hid hI
    have HB2 := Lib.hid hB2
    clear hI hB2 hw2 hrb HB
    go_wp2_with fail
    refine (of s w2 (by omega)).mono ?_
    rintro e w3 ⟨AA, cc, rfl, hm3⟩
    have hI3 : Rd w3 rb s 0 false := Is.only HI.out hm3.2.1 id
    have hB3 : Below w.heap.size w w3 := below_only HB2.out hm3.2.1 HB2.out.size (fun _ f => f.elim)
    have HI3 := Lib.hid hI3
    have HB3 := Lib.hid hB3
    have HM3 := Lib.hid hm3.1
    have hs3 : rb < w3.heap.size := hI3.lt
    clear hI3 hB3 hm3
    go_wp2_with fail
    have hT : Two w.heap.size rb w3.heap.size s AA cc 0 false w (w3.alloc (.cells #[.slice AA (8 * s.size) cc, .int .i64 0, .bool false] 30)) :=
      ⟨by omega, HI3.out.alloc _, ⟨Is.new w3 30 _, HM3.out.alloc _⟩, HB3.out.alloc HB3.out.size _⟩
    obtain ⟨vb, hvb⟩ : ∃ vb, w3.heap.size = vb := ⟨_, rfl⟩
    obtain ⟨w4, hw4⟩ : ∃ w4, w3.alloc (.cells #[.slice AA (8 * s.size) cc, .int .i64 0, .bool false] 30) = w4 := ⟨_, rfl⟩
    rw [hvb] at hs3 hT ⊢
    rw [hw4] at hT ⊢
    have hne : rb ≠ vb := by omega
    have hb2 : w.heap.size ≤ vb := by omega
    have HNE := Lib.hid hne
    have HT := Lib.hid hT
    clear hvb hw4 hT hne HI HB2 HI3 HB3 HM3
    go_wp2_with fail
    go_loopg [28] n (fun gk i wx => ∃ (k a : Nat) (f : Bool), i = .int .i64 k ∧ k + gk ≤ n ∧ n ≤ k + gk ∧ Two w.heap.size rb vb s AA cc a f w wx)
    case atStart => exact ⟨0, 0, false, rfl, by omega, by omega, HT.out⟩
    case round =>
      obtain ⟨k, a, f, rfl, hk, hk2, hP⟩ := hrel
      have HP := Lib.hid hP
      have hsz : w.heap.size ≤ wr.heap.size := hP.2.2.2.size
      have HG1 : Hid (wr.heap.size ≠ rb) := by
        have := hP.2.1.lt
        show wr.heap.size ≠ rb
        omega
      have HG2 : Hid (wr.heap.size ≠ vb) := by
        have := hP.2.2.1.1.lt
        show wr.heap.size ≠ vb
        omega
      clear hP HT
      by_cases hlt : k < n
      · obtain ⟨d, hd⟩ : ∃ d, ds[k]? = some d := ⟨ds[k]'(by rw [HD.out.1]; exact hlt), by simp [HD.out.1, hlt]⟩
        obtain ⟨h1, h2, h3, ba, off, hA, hba, c0, c1, c2, c3⟩ := (HD.out.below HP.out.2.2.2).2 k d hd
        subst hA
        clear hd h3
        have hkinds : d.k % 4 = 0 ∨ d.k % 4 = 1 ∨ d.k % 4 = 2 ∨ d.k % 4 = 3 := by omega
        rcases hkinds with h4 | h4 | h4 | h4
        · have e0 : ((d.k : Int) % 4 == 0) = true := by rw [beq_iff_eq]; omega
          clear h4
          go_upto_region 13 with fail
          obtain ⟨wa, hwa⟩ : ∃ wa, wr.alloc (.cells #[.int .u8 d.k, .int .u32 d.v, .int .i64 d.n, .string d.s] 33) = wa := ⟨_, rfl⟩
          obtain ⟨g, hg⟩ : ∃ g, wr.heap.size = g := ⟨_, rfl⟩
          have hIa : Is wa g 33 [.int .u8 d.k, .int .u32 d.v, .int .i64 d.n, .string d.s] := by rw [← hwa, ← hg]; exact Is.new wr 33 _
          have HPa : Hid (Two w.heap.size rb vb s AA cc a f w wa) := by rw [← hwa]; exact HP.out.alloc hsz _
          have ca := hIa.cell 2 rfl
          have HIa := Lib.hid hIa
          rw [hwa]
          rw [hg] at HG1 HG2
          try rw [hg]
          clear hwa hg hIa c0 c1 c2 c3
          obtain ⟨x, a2, f2, hx⟩ : ∃ x a2 f2, rBits s a f d.n = (x, a2, f2) := ⟨_, _, _, rfl⟩
          have hle := rBits_le s a f d.n HPa.out.1
          have C1 : Hid (∀ W : World, Rd W rb s a f → Calls Try.prog 10 #[.pointer (some ⟨rb, 0, none⟩), .int .i64 d.n] W (AtPost rb s a2 f2 W (.int .u32 x))) := by
            intro W hW
            have := rbits rb s a f d.n W hW (by omega) HPa.out.1
            rw [hx] at this
            exact this
          have C2 : Hid (∀ W : World, RR W vb AA (8 * s.size) cc a f (bitsOf s.data.toList) → Calls Try.prog 11 #[.pointer (some ⟨vb, 0, none⟩), .int .i64 d.n] W (RRPost vb AA (8 * s.size) cc a2 f2 (bitsOf s.data.toList) W (.int .u32 x))) := by
            intro W hW
            have := rbits2 vb s AA cc a f d.n W hW hs100 HPa.out.1
            rw [hx] at this
            exact this
          rw [hx] at hle
          have HLE := Lib.hid hle
          clear hx hle
          go_region_held3 (fun w' => w'.cell? ⟨g, 2, none⟩ = some (.int .i64 d.n)) (first | assumption)
            (first
              | (go_at_call 10; refine (C1.out wa.drew (Is.drew HPa.out.2.1)).mono ?_; rintro e w4 ⟨rfl, hr4, ho4⟩; have hc4 : w4.cell? ⟨g, 2, none⟩ = some (.int .i64 d.n) := (HIa.out.drew.only ho4 HG1.out).cell 2 rfl; have HI4 : Hid (Is w4 g 33 [.int .u8 d.k, .int .u32 d.v, .int .i64 d.n, .string d.s]) := HIa.out.drew.only ho4 HG1.out; have HH4 := Lib.hid (Two.half (HPa.out.drewN 1) HLE.out hr4 ho4 HNE.out hb1); clear hr4 ho4)
              | (go_at_call 11; refine (C2.out w4 HH4.out.2.2.2.1).mono ?_; rintro e w5 ⟨rfl, hr5, ho5⟩; have hc5 : w5.cell? ⟨g, 2, none⟩ = some (.int .i64 d.n) := (HI4.out.only ho5 HG2.out).cell 2 rfl; have HS5 := Lib.hid (Half.two HH4.out hr5 ho5 HNE.out hb2); clear hr5 ho5))
          go_upto_region 19 with fail
          obtain ⟨p1, p2, p3, p4⟩ := HS5.out
          have cA := p3.1.cell 0 rfl
          have cB := p3.1.cell 1 rfl
          have cC := p3.1.cell 2 rfl
          have HR5 := Lib.hid p2
          obtain ⟨z, hz⟩ : ∃ z, 8 * s.size - a2 = z := ⟨_, rfl⟩
          have hw : IntKind.i64.wrap (8 * (s.size : Int) - a2) = (z : Int) := by rw [show 8 * (s.size : Int) - a2 = (z : Int) from by omega]; exact IntWalk.i64_in _ (by omega)
          have HZ := Lib.hid hz
          have CL : Hid (∀ k, Calls Try.prog 17 #[.pointer (some ⟨rb, 0, none⟩)] (w5.drewN k) fun e w' => e = .returned (.int .i64 z) ∧ ∃ m, w' = w5.drewN m) := by
            intro k
            have := left rb s a2 f2 (w5.drewN k) (HR5.out.drewN k) (by omega) p1
            rw [hz] at this
            refine this.mono ?_
            rintro e w' ⟨rfl, m, rfl⟩
            exact ⟨rfl, _, World.drewN_drewN _ _ _⟩
          have CA : Hid (∀ k, Calls Try.prog 16 #[.pointer (some ⟨rb, 0, none⟩)] (w5.drewN k) fun e w' => e = .returned (.int .i64 a2) ∧ ∃ m, w' = w5.drewN m) := by
            intro k
            refine (at_ rb s a2 f2 (w5.drewN k) (HR5.out.drewN k)).mono ?_
            rintro e w' ⟨rfl, rfl⟩
            exact ⟨rfl, k, rfl⟩
          have CE : Hid (∀ k, Calls Try.prog 18 #[.pointer (some ⟨rb, 0, none⟩)] (w5.drewN k) fun e w' => e = .returned (.int .i64 (errOf f2)) ∧ ∃ m, w' = w5.drewN m) := by
            intro k
            refine (err rb s a2 f2 (w5.drewN k) (HR5.out.drewN k)).mono ?_
            rintro e w' ⟨rfl, rfl⟩
            exact ⟨rfl, k, rfl⟩
          clear p1 p2 p3 p4 hz
          cases f2
          all_goals
            go_quiet (first | (go_at_call 16; exact CA.out _) | (go_at_call 17; exact CL.out _) | (go_at_call 18; exact CE.out _))
            go_wp2
            go_roundg (gk - 1)
            case measure => omega
            case rel => exact ⟨k + 1, a2, _, by go_num, by omega, by omega, HS5.out.drewN _⟩
        · have e0 : ((d.k : Int) % 4 == 0) = false := by rw [beq_eq_false_iff_ne]; omega
          have e1 : ((d.k : Int) % 4 == 1) = true := by rw [beq_iff_eq]; omega
          clear h4
          go_upto_region 13 with fail
          obtain ⟨wa, hwa⟩ : ∃ wa, wr.alloc (.cells #[.int .u8 d.k, .int .u32 d.v, .int .i64 d.n, .string d.s] 33) = wa := ⟨_, rfl⟩
          obtain ⟨g, hg⟩ : ∃ g, wr.heap.size = g := ⟨_, rfl⟩
          have hIa : Is wa g 33 [.int .u8 d.k, .int .u32 d.v, .int .i64 d.n, .string d.s] := by rw [← hwa, ← hg]; exact Is.new wr 33 _
          have HPa : Hid (Two w.heap.size rb vb s AA cc a f w wa) := by rw [← hwa]; exact HP.out.alloc hsz _
          have ca := hIa.cell 2 rfl
          have HIa := Lib.hid hIa
          rw [hwa]
          rw [hg] at HG1 HG2
          try rw [hg]
          clear hwa hg hIa c0 c1 c2 c3
          obtain ⟨x, a2, f2, hx⟩ : ∃ x a2 f2, rBits s a f d.n = (x, a2, f2) := ⟨_, _, _, rfl⟩
          have hle := rBits_le s a f d.n HPa.out.1
          have C1 : Hid (∀ W : World, Rd W rb s a f → Calls Try.prog 10 #[.pointer (some ⟨rb, 0, none⟩), .int .i64 d.n] W (AtPost rb s a2 f2 W (.int .u32 x))) := by
            intro W hW
            have := rbits rb s a f d.n W hW (by omega) HPa.out.1
            rw [hx] at this
            exact this
          have C2 : Hid (∀ W : World, RR W vb AA (8 * s.size) cc a f (bitsOf s.data.toList) → Calls Try.prog 11 #[.pointer (some ⟨vb, 0, none⟩), .int .i64 d.n] W (RRPost vb AA (8 * s.size) cc a2 f2 (bitsOf s.data.toList) W (.int .u32 x))) := by
            intro W hW
            have := rbits2 vb s AA cc a f d.n W hW hs100 HPa.out.1
            rw [hx] at this
            exact this
          rw [hx] at hle
          have HLE := Lib.hid hle
          clear hx hle
          go_region_held3 (fun w' => w'.cell? ⟨g, 2, none⟩ = some (.int .i64 d.n)) (first | assumption)
            (first
              | (go_at_call 10; refine (C1.out wa.drew (Is.drew HPa.out.2.1)).mono ?_; rintro e w4 ⟨rfl, hr4, ho4⟩; have hc4 : w4.cell? ⟨g, 2, none⟩ = some (.int .i64 d.n) := (HIa.out.drew.only ho4 HG1.out).cell 2 rfl; have HI4 : Hid (Is w4 g 33 [.int .u8 d.k, .int .u32 d.v, .int .i64 d.n, .string d.s]) := HIa.out.drew.only ho4 HG1.out; have HH4 := Lib.hid (Two.half (HPa.out.drewN 1) HLE.out hr4 ho4 HNE.out hb1); clear hr4 ho4)
              | (go_at_call 11; refine (C2.out w4 HH4.out.2.2.2.1).mono ?_; rintro e w5 ⟨rfl, hr5, ho5⟩; have hc5 : w5.cell? ⟨g, 2, none⟩ = some (.int .i64 d.n) := (HI4.out.only ho5 HG2.out).cell 2 rfl; have HS5 := Lib.hid (Half.two HH4.out hr5 ho5 HNE.out hb2); clear hr5 ho5))
          go_upto_region 19 with fail
          obtain ⟨p1, p2, p3, p4⟩ := HS5.out
          have cA := p3.1.cell 0 rfl
          have cB := p3.1.cell 1 rfl
          have cC := p3.1.cell 2 rfl
          have HR5 := Lib.hid p2
          obtain ⟨z, hz⟩ : ∃ z, 8 * s.size - a2 = z := ⟨_, rfl⟩
          have hw : IntKind.i64.wrap (8 * (s.size : Int) - a2) = (z : Int) := by rw [show 8 * (s.size : Int) - a2 = (z : Int) from by omega]; exact IntWalk.i64_in _ (by omega)
          have HZ := Lib.hid hz
          have CL : Hid (∀ k, Calls Try.prog 17 #[.pointer (some ⟨rb, 0, none⟩)] (w5.drewN k) fun e w' => e = .returned (.int .i64 z) ∧ ∃ m, w' = w5.drewN m) := by
            intro k
            have := left rb s a2 f2 (w5.drewN k) (HR5.out.drewN k) (by omega) p1
            rw [hz] at this
            refine this.mono ?_
            rintro e w' ⟨rfl, m, rfl⟩
            exact ⟨rfl, _, World.drewN_drewN _ _ _⟩
          have CA : Hid (∀ k, Calls Try.prog 16 #[.pointer (some ⟨rb, 0, none⟩)] (w5.drewN k) fun e w' => e = .returned (.int .i64 a2) ∧ ∃ m, w' = w5.drewN m) := by
            intro k
            refine (at_ rb s a2 f2 (w5.drewN k) (HR5.out.drewN k)).mono ?_
            rintro e w' ⟨rfl, rfl⟩
            exact ⟨rfl, k, rfl⟩
          have CE : Hid (∀ k, Calls Try.prog 18 #[.pointer (some ⟨rb, 0, none⟩)] (w5.drewN k) fun e w' => e = .returned (.int .i64 (errOf f2)) ∧ ∃ m, w' = w5.drewN m) := by
            intro k
            refine (err rb s a2 f2 (w5.drewN k) (HR5.out.drewN k)).mono ?_
            rintro e w' ⟨rfl, rfl⟩
            exact ⟨rfl, k, rfl⟩
          clear p1 p2 p3 p4 hz
          cases f2
          all_goals
            go_quiet (first | (go_at_call 16; exact CA.out _) | (go_at_call 17; exact CL.out _) | (go_at_call 18; exact CE.out _))
            go_wp2
            go_roundg (gk - 1)
            case measure => omega
            case rel => exact ⟨k + 1, a2, _, by go_num, by omega, by omega, HS5.out.drewN _⟩
        · have e0 : ((d.k : Int) % 4 == 0) = false := by rw [beq_eq_false_iff_ne]; omega
          have e1 : ((d.k : Int) % 4 == 1) = false := by rw [beq_eq_false_iff_ne]; omega
          have e2 : ((d.k : Int) % 4 == 2) = true := by rw [beq_iff_eq]; omega
          clear h4
          go_wp2_with fail
          obtain ⟨wa, hwa⟩ : ∃ wa, wr.alloc (.cells #[.int .u8 d.k, .int .u32 d.v, .int .i64 d.n, .string d.s] 33) = wa := ⟨_, rfl⟩
          obtain ⟨g, hg⟩ : ∃ g, wr.heap.size = g := ⟨_, rfl⟩
          have hIa : Is wa g 33 [.int .u8 d.k, .int .u32 d.v, .int .i64 d.n, .string d.s] := by rw [← hwa, ← hg]; exact Is.new wr 33 _
          have HPa : Hid (Two w.heap.size rb vb s AA cc a f w wa) := by rw [← hwa]; exact HP.out.alloc hsz _
          have ca := hIa.cell 2 rfl
          have HIa := Lib.hid hIa
          rw [hwa]
          rw [hg] at HG1 HG2
          try rw [hg]
          clear hwa hg hIa c0 c1 c2 c3
          refine (align rb s a f wa HPa.out.2.1 (by omega) HPa.out.1).mono ?_
          have hle : (if f then a else (a + 7) / 8 * 8) ≤ 8 * s.size := by have := HPa.out.1; split <;> omega
          have hin := HPa.out.1
          obtain ⟨a2, ha2⟩ : ∃ a2, (if f then a else (a + 7) / 8 * 8) = a2 := ⟨_, rfl⟩
          have C2 : Hid (∀ W : World, RR W vb AA (8 * s.size) cc a f (bitsOf s.data.toList) → Calls Try.prog 13 #[.pointer (some ⟨vb, 0, none⟩)] W (RRPost vb AA (8 * s.size) cc a2 f (bitsOf s.data.toList) W (.tuple #[]))) := by
            intro W hW
            rw [← ha2]
            exact ralignR vb AA (8 * s.size) cc a f _ W hW (by omega)
          rw [ha2] at hle ⊢
          rintro e w4 ⟨rfl, hr4, ho4⟩
          have HH4 := Lib.hid (Two.half HPa.out hle hr4 ho4 HNE.out hb1)
          clear hr4 ho4 ha2 hle hin
          go_wp2_with fail
          refine (C2.out w4 HH4.out.2.2.2.1).mono ?_
          rintro e w5 ⟨rfl, hr5, ho5⟩
          have HS5 : Hid (Two w.heap.size rb vb s AA cc a2 f w w5) := Half.two HH4.out hr5 ho5 HNE.out hb2
          clear hr5 ho5
          go_upto_region 19 with fail
          obtain ⟨p1, p2, p3, p4⟩ := HS5.out
          have cA := p3.1.cell 0 rfl
          have cB := p3.1.cell 1 rfl
          have cC := p3.1.cell 2 rfl
          have HR5 := Lib.hid p2
          obtain ⟨z, hz⟩ : ∃ z, 8 * s.size - a2 = z := ⟨_, rfl⟩
          have hw : IntKind.i64.wrap (8 * (s.size : Int) - a2) = (z : Int) := by rw [show 8 * (s.size : Int) - a2 = (z : Int) from by omega]; exact IntWalk.i64_in _ (by omega)
          have HZ := Lib.hid hz
          have CL : Hid (∀ k, Calls Try.prog 17 #[.pointer (some ⟨rb, 0, none⟩)] (w5.drewN k) fun e w' => e = .returned (.int .i64 z) ∧ ∃ m, w' = w5.drewN m) := by
            intro k
            have := left rb s a2 f (w5.drewN k) (HR5.out.drewN k) (by omega) p1
            rw [hz] at this
            refine this.mono ?_
            rintro e w' ⟨rfl, m, rfl⟩
            exact ⟨rfl, _, World.drewN_drewN _ _ _⟩
          have CA : Hid (∀ k, Calls Try.prog 16 #[.pointer (some ⟨rb, 0, none⟩)] (w5.drewN k) fun e w' => e = .returned (.int .i64 a2) ∧ ∃ m, w' = w5.drewN m) := by
            intro k
            refine (at_ rb s a2 f (w5.drewN k) (HR5.out.drewN k)).mono ?_
            rintro e w' ⟨rfl, rfl⟩
            exact ⟨rfl, k, rfl⟩
          have CE : Hid (∀ k, Calls Try.prog 18 #[.pointer (some ⟨rb, 0, none⟩)] (w5.drewN k) fun e w' => e = .returned (.int .i64 (errOf f)) ∧ ∃ m, w' = w5.drewN m) := by
            intro k
            refine (err rb s a2 f (w5.drewN k) (HR5.out.drewN k)).mono ?_
            rintro e w' ⟨rfl, rfl⟩
            exact ⟨rfl, k, rfl⟩
          clear p1 p2 p3 p4 hz
          cases f
          all_goals
            go_quiet (first | (go_at_call 16; exact CA.out _) | (go_at_call 17; exact CL.out _) | (go_at_call 18; exact CE.out _))
            go_wp2
            go_roundg (gk - 1)
            case measure => omega
            case rel => exact ⟨k + 1, a2, _, by go_num, by omega, by omega, HS5.out.drewN _⟩
        · have e0 : ((d.k : Int) % 4 == 0) = false := by rw [beq_eq_false_iff_ne]; omega
          have e1 : ((d.k : Int) % 4 == 1) = false := by rw [beq_eq_false_iff_ne]; omega
          have e2 : ((d.k : Int) % 4 == 2) = false := by rw [beq_eq_false_iff_ne]; omega
          have e3 : ((d.k : Int) % 4 == 3) = true := by rw [beq_iff_eq]; omega
          clear h4
          go_upto_region 18 with fail
          obtain ⟨wa, hwa⟩ : ∃ wa, wr.alloc (.cells #[.int .u8 d.k, .int .u32 d.v, .int .i64 d.n, .string d.s] 33) = wa := ⟨_, rfl⟩
          obtain ⟨g, hg⟩ : ∃ g, wr.heap.size = g := ⟨_, rfl⟩
          have hIa : Is wa g 33 [.int .u8 d.k, .int .u32 d.v, .int .i64 d.n, .string d.s] := by rw [← hwa, ← hg]; exact Is.new wr 33 _
          have HPa : Hid (Two w.heap.size rb vb s AA cc a f w wa) := by rw [← hwa]; exact HP.out.alloc hsz _
          have ca := hIa.cell 2 rfl
          have HIa := Lib.hid hIa
          rw [hwa]
          rw [hg] at HG1 HG2
          try rw [hg]
          clear hwa hg hIa c0 c1 c2 c3
          obtain ⟨x, a2, f2, hx⟩ : ∃ x a2 f2, rBytes s a f d.n = (x, a2, f2) := ⟨_, _, _, rfl⟩
          have hle := rBytes_le s a f d.n HPa.out.1
          have C1 : Hid (∀ W : World, Rd W rb s a f → Calls Try.prog 14 #[.pointer (some ⟨rb, 0, none⟩), .int .i64 d.n] W (AtPost rb s a2 f2 W (.string x))) := by
            intro W hW
            have := rbytes rb s a f d.n W hW (by omega) HPa.out.1
            rw [hx] at this
            exact this
          have C2 : Hid (∀ W : World, RR W vb AA (8 * s.size) cc a f (bitsOf s.data.toList) → Calls Try.prog 15 #[.pointer (some ⟨vb, 0, none⟩), .int .i64 d.n] W (RRPost vb AA (8 * s.size) cc a2 f2 (bitsOf s.data.toList) W (.string x))) := by
            intro W hW
            have := rbytes2 vb s AA cc a f d.n W hW hs100 HPa.out.1
            rw [hx] at this
            exact this
          rw [hx] at hle
          have HLE := Lib.hid hle
          clear hx hle
          go_region_held3 (fun w' => w'.cell? ⟨g, 2, none⟩ = some (.int .i64 d.n)) (first | assumption)
            (first
              | (go_at_call 14; refine (C1.out wa.drew (Is.drew HPa.out.2.1)).mono ?_; rintro e w4 ⟨rfl, hr4, ho4⟩; have hc4 : w4.cell? ⟨g, 2, none⟩ = some (.int .i64 d.n) := (HIa.out.drew.only ho4 HG1.out).cell 2 rfl; have HI4 : Hid (Is w4 g 33 [.int .u8 d.k, .int .u32 d.v, .int .i64 d.n, .string d.s]) := HIa.out.drew.only ho4 HG1.out; have HH4 := Lib.hid (Two.half (HPa.out.drewN 1) HLE.out hr4 ho4 HNE.out hb1); clear hr4 ho4)
              | (go_at_call 15; refine (C2.out w4 HH4.out.2.2.2.1).mono ?_; rintro e w5 ⟨rfl, hr5, ho5⟩; have hc5 : w5.cell? ⟨g, 2, none⟩ = some (.int .i64 d.n) := (HI4.out.only ho5 HG2.out).cell 2 rfl; have HS5 := Lib.hid (Half.two HH4.out hr5 ho5 HNE.out hb2); clear hr5 ho5))
          go_upto_region 19 with fail
          obtain ⟨p1, p2, p3, p4⟩ := HS5.out
          have cA := p3.1.cell 0 rfl
          have cB := p3.1.cell 1 rfl
          have cC := p3.1.cell 2 rfl
          have HR5 := Lib.hid p2
          obtain ⟨z, hz⟩ : ∃ z, 8 * s.size - a2 = z := ⟨_, rfl⟩
          have hw : IntKind.i64.wrap (8 * (s.size : Int) - a2) = (z : Int) := by rw [show 8 * (s.size : Int) - a2 = (z : Int) from by omega]; exact IntWalk.i64_in _ (by omega)
          have HZ := Lib.hid hz
          have CL : Hid (∀ k, Calls Try.prog 17 #[.pointer (some ⟨rb, 0, none⟩)] (w5.drewN k) fun e w' => e = .returned (.int .i64 z) ∧ ∃ m, w' = w5.drewN m) := by
            intro k
            have := left rb s a2 f2 (w5.drewN k) (HR5.out.drewN k) (by omega) p1
            rw [hz] at this
            refine this.mono ?_
            rintro e w' ⟨rfl, m, rfl⟩
            exact ⟨rfl, _, World.drewN_drewN _ _ _⟩
          have CA : Hid (∀ k, Calls Try.prog 16 #[.pointer (some ⟨rb, 0, none⟩)] (w5.drewN k) fun e w' => e = .returned (.int .i64 a2) ∧ ∃ m, w' = w5.drewN m) := by
            intro k
            refine (at_ rb s a2 f2 (w5.drewN k) (HR5.out.drewN k)).mono ?_
            rintro e w' ⟨rfl, rfl⟩
            exact ⟨rfl, k, rfl⟩
          have CE : Hid (∀ k, Calls Try.prog 18 #[.pointer (some ⟨rb, 0, none⟩)] (w5.drewN k) fun e w' => e = .returned (.int .i64 (errOf f2)) ∧ ∃ m, w' = w5.drewN m) := by
            intro k
            refine (err rb s a2 f2 (w5.drewN k) (HR5.out.drewN k)).mono ?_
            rintro e w' ⟨rfl, rfl⟩
            exact ⟨rfl, k, rfl⟩
          clear p1 p2 p3 p4 hz
          cases f2
          all_goals
            go_quiet (first | (go_at_call 16; exact CA.out _) | (go_at_call 17; exact CL.out _) | (go_at_call 18; exact CE.out _))
            go_wp2
            go_roundg (gk - 1)
            case measure => omega
            case rel => exact ⟨k + 1, a2, _, by go_num, by omega, by omega, HS5.out.drewN _⟩
      · go_wp2
        go_ret
        exact ⟨rfl, HP.out.2.2.2⟩
end Go.Proofs.Ythocfdkheikeoaa.AllReads
