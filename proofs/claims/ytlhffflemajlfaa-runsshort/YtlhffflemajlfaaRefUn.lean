/- Layer 10, the document: what symbols say. -/
import Derived.Test.YtlhffflemajlfaaUnpack
namespace Go.Proofs.Ytlhffflemajlfaa
open Go.RowKit

theorem may_no (r : Ru) (h : ¬ (0 ≤ r.s ∧ r.s ≤ 18 ∧ 0 ≤ r.m ∧ r.m ≤ mostF r.s)) : mayR r = false := by
  cases hq : mayR r with
  | false => rfl
  | true => exact absurd (mayR_yes r hq) h

set_option maxRecDepth 20000 in
set_option maxHeartbeats 8000000 in
theorem runpack (A : Option Addr) (n c B : Nat) (ts : List Ru) (w : World) (h : See w B A (rus ts)) (hn : ts.length = n) (hb : n ≤ 1000000) : Calls Try.prog 8 #[.slice A n c] w (UnPost w (unF ts [])) := by
  have HS := Lib.hid h
  have HN := Lib.hid hn
  clear h hn
  go_enter Try.func8, Try.ntmps8
  go_wp2_with fail
  go_loopg [4, 5] n (fun gk v4 i wx => ∃ (j q : Nat) (A' : Option Addr) (c' : Nat) (o : List Nat), i = .int .i64 j ∧ v4 = .slice A' q c' ∧ j + gk ≤ n ∧ n ≤ j + gk ∧ q ≤ 1000 ∧ Hid (UnAt w ts j o A' q c' wx))
  case atStart => exact ⟨0, 0, none, 0, [], rfl, rfl, by omega, by omega, by omega, Lib.hid ⟨rfl, rfl, Made.nil 3 w⟩⟩
  case round =>
    obtain ⟨j, q, A', c', o, rfl, rfl, hg1, hg2, hq, HE⟩ := hrel
    obtain ⟨gO, hgO⟩ : ∃ gO, gk = gO := ⟨_, rfl⟩
    by_cases hlt : j < n
    · obtain ⟨t, ht⟩ : ∃ t, ts[j]? = some t := ⟨ts[j]'(by rw [HN.out]; exact hlt), by simp [HN.out, hlt]⟩
      obtain ⟨b0, off, rfl, _, c0, c1⟩ := (HS.out.new HE.out.2.2.2.1).sym j t ht
      have HT := Lib.hid ht
      obtain ⟨s, m⟩ := t
      simp only at c0 c1
      clear ht
      go_upto_region 6 with fail
      obtain ⟨wa, hwa⟩ : ∃ wa, wr.alloc (.cells #[.int .i64 s, .int .i64 m] 36) = wa := ⟨_, rfl⟩
      obtain ⟨g, hg⟩ : ∃ g, wr.heap.size = g := ⟨_, rfl⟩
      have hIa : Is wa g 36 (ruc ⟨s, m⟩) := by rw [← hwa, ← hg]; exact Is.new wr 36 _
      have HEa : Hid (UnAt w ts j o A' q c' wa) := Lib.hid (HE.out.new (hwa ▸ (Only.refl _ wr).alloc _))
      have HG : Hid (¬ Lies A' g) := Lib.hid fun hl => by have := HE.out.2.2.1.lies g hl; omega
      have ca0 := hIa.cell 0 rfl
      have ca1 := hIa.cell 1 rfl
      have HIa := Lib.hid hIa
      rw [hwa, hg]
      clear hwa hg hIa HE c0 c1
      have h7 := bits_le s
      have hm127 := most_le s
      have e := bits_most s
      have C12 : Hid (∀ k, Calls Try.prog 12 #[.int .i64 s] (wa.drewN k) fun e w' => e = .returned (.int .i64 (bitsF s)) ∧ ∃ n, w' = wa.drewN n) := Lib.hid fun k => (rbits s (wa.drewN k)).mono fun _ _ ⟨he, hw⟩ => ⟨he, k, hw.symm⟩
      obtain ⟨b, hb2⟩ : ∃ b, bitsF s = b := ⟨_, rfl⟩
      obtain ⟨mx, hmx⟩ : ∃ mx, mostF s = mx := ⟨_, rfl⟩
      rw [hb2] at e h7 C12
      rw [hmx] at e hm127
      have HMX := Lib.hid hmx
      clear hmx hb2
      have e3 : (2 : Int) ^ b = (mx : Int) + 1 := by
        have e2 : ((2 ^ b : Nat) : Int) = (mx : Int) + 1 := by omega
        rw [← e2]; exact (Int.natCast_pow 2 b).symm
      clear e
      go_cut [41] (fun v wx => ∃ nq, v = .bool (!mayR ⟨s, m⟩) ∧ wx = wa.drewN nq)
      case first =>
        clear HS HN HT HEa HG HIa
        by_cases h1 : s < 0
        · have hr := may_no ⟨s, m⟩ (fun h => by have := h.1; simp only at this; omega)
          go_quiet ((go_at_call 12; exact C12.out _))
          go_wp2
          go_meet
          exact ⟨_, by rw [hr]; rfl, rfl⟩
        · have d1 : decide (s < 0) = false := decide_eq_false h1
          by_cases h2 : 18 < s
          · have hr := may_no ⟨s, m⟩ (fun h => by have := h.2.1; simp only at this; omega)
            go_quiet ((go_at_call 12; exact C12.out _))
            go_wp2
            go_meet
            exact ⟨_, by rw [hr]; rfl, rfl⟩
          · have d2 : decide (18 < s) = false := decide_eq_false h2
            by_cases h3 : m < 0
            · have hr := may_no ⟨s, m⟩ (fun h => by have := h.2.2.1; simp only at this; omega)
              go_quiet ((go_at_call 12; exact C12.out _))
              go_wp2
              go_meet
              exact ⟨_, by rw [hr]; rfl, rfl⟩
            · have d3 : decide (m < 0) = false := decide_eq_false h3
              have e4 : IntKind.i64.wrap (1 * (2 : Int) ^ b) = (mx : Int) + 1 := by rw [e3, IntWalk.i64_in _ (by omega)]; omega
              have HR : Hid (decide ((mx : Int) + 1 ≤ m) = !mayR ⟨s, m⟩) := Lib.hid (by
                by_cases h4 : m ≤ (mx : Int)
                · rw [(mayR_iff ⟨s, m⟩).2 ⟨by show 0 ≤ s; omega, by show s ≤ 18; omega, by show 0 ≤ m; omega, by show m ≤ (mostF s : Int); rw [HMX.out]; exact h4⟩]
                  simp
                  omega
                · rw [may_no ⟨s, m⟩ (fun h => h4 (by have := h.2.2.2; simp only [HMX.out] at this; exact this))]
                  simp
                  omega)
              go_quiet ((go_at_call 12; exact C12.out _))
              rw [HR.out]
              go_wp2
              go_meet
              exact ⟨_, rfl, rfl⟩
      case rest =>
        obtain ⟨nq, rfl, rfl⟩ := hcut
        have HI2 := Lib.hid (HIa.out.drewN nq)
        have HE2 := Lib.hid (HEa.out.new ((Only.refl _ wa).drewN nq))
        obtain ⟨w2, hw2⟩ : ∃ w2, wa.drewN nq = w2 := ⟨_, rfl⟩
        rw [hw2] at HI2 HE2 ⊢
        have ca0 := HI2.out.cell 0 rfl
        have ca1 := HI2.out.cell 1 rfl
        clear hw2 C12 HIa HEa e3
        by_cases hmay : mayR ⟨s, m⟩ = true
        · have HM := Lib.hid hmay
          rw [hmay]
          clear hmay
          by_cases hf : s = 16 ∧ q = 0
          · have HX : Hid (unF ts [] = ([], 2)) := Lib.hid (by rw [← HE2.out.2.1]; exact un_first ts j _ o HT.out HM.out hf.1 (by rw [HE2.out.1]; exact hf.2))
            obtain ⟨rfl, rfl⟩ := hf
            go_wp2
            go_ret2
            exact UnPost.bad HX.out HE2.out.2.2.2.1
          · have hy := mayR_yes _ HM.out
            obtain ⟨m', rfl⟩ : ∃ m' : Nat, m = m' := ⟨m.toNat, by have := hy.2.2.1; simp only at this; omega⟩
            have hm2 : m' ≤ mx := by have := hy.2.2.2; simp only [HMX.out] at this; omega
            have hs0 : 0 ≤ s := hy.1
            have hs18 : s ≤ 18 := hy.2.1
            have HW : Hid (s = 16 → q ≠ 0) := Lib.hid fun h => fun h2 => hf ⟨h, h2⟩
            clear hy
            go_upto_region 8 with fail
            go_cut [49] (fun v wx => v = .bool false ∧ wx = w2)
            case first =>
              by_cases h16 : s = 16
              · have hq0 : ((q : Int) == 0) = false := by simp; exact HW.out h16
                subst h16
                clear hf
                go_wp2_with fail
                go_meet
                exact ⟨rfl, rfl⟩
              · have hq0 : (s == 16) = false := by simp [h16]
                clear hf
                go_wp2_with fail
                go_meet
                exact ⟨rfl, rfl⟩
            case rest =>
              obtain ⟨rfl, rfl⟩ := hcut
              clear hf
              obtain ⟨x, hx⟩ : ∃ x, whatF s o = x := ⟨_, rfl⟩
              obtain ⟨u, hu⟩ : ∃ u, timesF ⟨s, m'⟩ = u := ⟨_, rfl⟩
              have hu1 : 1 ≤ u ∧ u ≤ 138 := by rw [← hu]; exact times_le _ HM.out
              have HX := Lib.hid hx
              have HU := Lib.hid hu
              clear hx hu
              have F16 : Hid (s = 16 → (3 : Int) + (m' : Int) = (u : Int)) := Lib.hid (fun h => by
                have := HU.out
                rw [h] at this
                have e : 3 + m' = u := this
                omega)
              have F17 : Hid (s = 17 → (3 : Int) + (m' : Int) = (u : Int) ∧ x = 0) := Lib.hid (fun h => by
                have := HU.out
                rw [h] at this
                have e : 3 + m' = u := this
                have := HX.out
                rw [h] at this
                exact ⟨by omega, this.symm⟩)
              have F18 : Hid (s = 18 → (11 : Int) + (m' : Int) = (u : Int) ∧ x = 0) := Lib.hid (fun h => by
                have := HU.out
                rw [h] at this
                have e : 11 + m' = u := this
                have := HX.out
                rw [h] at this
                exact ⟨by omega, this.symm⟩)
              have F0 : Hid (s ≠ 16 → s ≠ 17 → s ≠ 18 → (1 : Int) = (u : Int) ∧ s = (x : Int)) := Lib.hid (fun h16 h17 h18 => by
                have h1 := HX.out
                have h2 := HU.out
                have h3 := HMX.out
                unfold whatF at h1
                unfold mostF at h3
                unfold timesF leastF at h2
                simp only [if_neg h16, if_neg h17, if_neg h18] at h1 h2 h3
                omega)
              go_upto_if 54 with fail
              go_cut [7, 8] (fun v7 v8 wx => ∃ a b : Int, v7 = .int .i64 a ∧ v8 = .int .i64 b ∧ Hid (s = 16 → a = u ∧ b = x) ∧ Hid (s ≠ 16 → a = 1 ∧ b = s) ∧ wx = wc)
              case first =>
                by_cases h16 : s = 16
                · subst h16
                  have hq0 : q ≠ 0 := HW.out rfl
                  have eu := F16.out rfl
                  obtain ⟨p, hp⟩ : ∃ p, q - 1 = p := ⟨_, rfl⟩
                  have ep : (q : Int) - 1 = (p : Int) := by omega
                  have hd := HE2.out.2.2.1.cell (ints_at o p (by rw [HE2.out.1]; omega))
                  obtain ⟨g2, rfl, hd, _⟩ := hd
                  have hx2 : o.getD p 0 = x := by
                    have := HX.out
                    unfold whatF at this
                    rw [if_pos rfl, HE2.out.1, hp] at this
                    exact this
                  rw [hx2] at hd
                  clear hx2 HX HU F16 F17 F18 F0 HS HN HT HE2 HG
                  go_wp2_with fail
                  go_meet
                  exact ⟨u, x, rfl, rfl, Lib.hid fun _ => ⟨rfl, rfl⟩, Lib.hid fun h => absurd rfl h, rfl⟩
                · have e16 : (s == 16) = false := by simp [h16]
                  clear HX HU F16 F17 F18 F0 HS HN HT HE2 HG
                  go_wp2_with fail
                  go_meet
                  exact ⟨1, s, rfl, rfl, Lib.hid fun h => absurd h h16, Lib.hid fun _ => ⟨rfl, rfl⟩, rfl⟩
              case rest =>
                obtain ⟨a, b2, rfl, rfl, HA16, HA, rfl⟩ := hcut
                go_upto_if 66 with fail
                go_cut [7, 8] (fun v7 v8 wx => ∃ a b : Int, v7 = .int .i64 a ∧ v8 = .int .i64 b ∧ Hid (s = 16 ∨ s = 17 → a = u ∧ b = x) ∧ Hid (s ≠ 16 → s ≠ 17 → a = 1 ∧ b = s) ∧ wx = wc)
                case first =>
                  by_cases h17 : s = 17
                  · subst h17
                    have eu := (F17.out rfl).1
                    have HX0 := Lib.hid (F17.out rfl).2
                    clear HX HU F16 F17 F18 F0 HS HN HT HE2 HG
                    go_wp2_with fail
                    go_meet
                    exact ⟨u, 0, rfl, rfl, Lib.hid fun _ => ⟨rfl, by rw [HX0.out]; rfl⟩, Lib.hid fun _ h => absurd rfl h, rfl⟩
                  · have e17 : (s == 17) = false := by simp [h17]
                    clear HX HU F16 F17 F18 F0 HS HN HT HE2 HG
                    go_wp2_with fail
                    go_meet
                    exact ⟨a, b2, rfl, rfl, Lib.hid fun h => HA16.out (h.resolve_right h17), Lib.hid fun h _ => HA.out h, rfl⟩
                case rest =>
                  clear HA16 HA
                  obtain ⟨a, b2, rfl, rfl, HA16, HA, rfl⟩ := hcut
                  go_upto_if 72 with fail
                  go_cut [7, 8] (fun v7 v8 wx => v7 = .int .i64 u ∧ v8 = .int .i64 x ∧ wx = wc)
                  case first =>
                    by_cases h18 : s = 18
                    · subst h18
                      have eu := (F18.out rfl).1
                      have HX0 := Lib.hid (F18.out rfl).2
                      clear HX HU F16 F17 F18 F0 HS HN HT HE2 HG
                      go_wp2_with fail
                      go_meet
                      exact ⟨rfl, by rw [HX0.out]; rfl, rfl⟩
                    · have e18 : (s == 18) = false := by simp [h18]
                      have HAB : Hid (a = (u : Int) ∧ b2 = (x : Int)) := Lib.hid (by
                        by_cases h1 : s = 16 ∨ s = 17
                        · exact HA16.out h1
                        · have h2 := HA.out (fun h => h1 (.inl h)) (fun h => h1 (.inr h))
                          have h3 := F0.out (fun h => h1 (.inl h)) (fun h => h1 (.inr h)) h18
                          omega)
                      clear HX HU F16 F17 F18 F0 HS HN HT HE2 HG HA16 HA
                      go_wp2_with fail
                      go_meet
                      exact ⟨by rw [HAB.out.1], by rw [HAB.out.2], rfl⟩
                  case rest =>
                    clear HA16 HA F16 F17 F18 F0
                    obtain ⟨rfl, rfl, rfl⟩ := hcut
                    by_cases hmu : 1000 < q + u
                    · have HZ : Hid (unF ts [] = ([], 7)) := Lib.hid (by rw [← HE2.out.2.1]; exact un_much ts j _ o HT.out HM.out (fun h => HW.out h.1 (by rw [← HE2.out.1]; exact h.2)) (by rw [HE2.out.1, HU.out]; exact hmu))
                      have hmu2 : (1000 : Int) < (q : Int) + (u : Int) := by omega
                      go_wp2
                      go_ret2
                      exact UnPost.bad HZ.out HE2.out.2.2.2.1
                    · have hmu2 : ¬ (1000 : Int) < (q : Int) + (u : Int) := by omega
                      have HN6 : Hid (unF (ts.drop (j + 1)) (o ++ List.replicate u x) = unF ts []) := Lib.hid (by
                        rw [← HE2.out.2.1, un_on ts j _ o HT.out HM.out (fun h => HW.out h.1 (by rw [← HE2.out.1]; exact h.2)) (by rw [HE2.out.1, HU.out]; omega), HU.out, HX.out])
                      have HO := Lib.hid HE2.out.1
                      have HM2 := Lib.hid HE2.out.2.2
                      clear HX HU HE2 HT HM HW
                      go_wp2_with fail
                      go_loopg [4, 9] u (fun gi v4 v9 wx => ∃ (k Q : Nat) (A2 : Option Addr) (c2 : Nat), v4 = .slice A2 Q c2 ∧ v9 = .int .i64 k ∧ q + k = Q ∧ k + gi ≤ u ∧ u ≤ k + gi ∧ Hid (Made 3 w A2 Q c2 (ints (o ++ List.replicate k x)) wx))
                      case atStart => exact ⟨0, q, A', c', rfl, rfl, by omega, by omega, by omega, by rw [List.replicate_zero, List.append_nil]; exact HM2⟩
                      case round =>
                        clear HM2
                        obtain ⟨k, Q, A2, c2, rfl, rfl, hQ, hi1, hi2, HM2⟩ := hrel
                        by_cases hk : k < u
                        · go_wp2_with (at_builtin
                                       refine wpList_append_row rfl (.tmp 86) (.tmp 88) 22 22 3 rfl Try.underlying22 info3 A2 Q c2 1 (ints (o ++ List.replicate k x)) [.int .i64 (x : Int)] (.slice (some ⟨wr.heap.size, 0, none⟩) 1 1) (by rfl) (by rfl) (HM2.out.1.alloc _) rfl (Src.oneInt Try.underlying22 wr .i64 (x : Int) 1 3) (by omega) (by omega) ?_
                                       intro A6 c6 w6 hrow6 honly6 hlies6
                                       have HM6 := Lib.hid ((HM2.out.alloc _).grown hrow6 honly6 hlies6)
                                       clear hrow6 honly6 hlies6)
                          go_roundg (gk - 1)
                          case measure => omega
                          case rel => exact ⟨k + 1, Q + 1, A6, c6, rfl, by go_num, by omega, by omega, by omega, Lib.hid (by
                            have h := HM6.out
                            have e : ints (o ++ List.replicate k x) ++ [.int .i64 (x : Int)] = ints (o ++ List.replicate (k + 1) x) := by rw [List.replicate_succ', ← List.append_assoc]; simp [ints]
                            rw [e] at h
                            exact h)⟩
                        · obtain rfl : k = u := by omega
                          go_wp2_with fail
                          go_roundg (gO - 1)
                          case measure => omega
                          case rel => exact ⟨j + 1, Q, A2, c2, o ++ List.replicate k x, by go_num, rfl, by omega, by omega, by omega, Lib.hid ⟨by rw [List.length_append, List.length_replicate, HO.out]; omega, HN6.out, HM2.out⟩⟩
        · have hm2 : mayR ⟨s, m⟩ = false := by simpa using hmay
          have HX : Hid (unF ts [] = ([], 1)) := Lib.hid (by rw [← HE2.out.2.1]; exact un_bad ts j _ o HT.out hm2)
          rw [hm2]
          clear hmay
          go_wp2
          go_ret2
          exact UnPost.bad HX.out HE2.out.2.2.2.1
    · obtain rfl : j = n := by omega
      have HX : Hid (unF ts [] = (o, 0)) := Lib.hid (by rw [← HE.out.2.1, un_end ts _ o (by rw [HN.out]; exact Nat.le_refl _)])
      go_wp2
      go_ret2
      rw [HX.out]
      exact ⟨A', q, c', rfl, HE.out.1, HE.out.2.2⟩
end Go.Proofs.Ytlhffflemajlfaa
