/- Layer 13, the document: code points, paths that may be, the path of a name. -/
import Derived.Test.YtmdcnkcbieifpaaDoorRtC
namespace Go.Proofs.YtmdcnkcbieifpaaDoor
open Go.RowKit

theorem rlong (c : Nat) (w : World) (h : c < 256) : Calls Tryd.prog 24 #[.int .u8 c] w fun e w' => e = .returned (.tuple #[.int .i64 (longF c).1, .int .i64 (longF c).2]) ∧ w = w' := by
  unfold longF
  by_cases h1 : c < 128
  · have g1 : (c : Int) < 128 := by omega
    rw [if_pos h1]
    go_enter Tryd.func24, Tryd.ntmps24
    go_wp2
    go_ret2
    exact ⟨rfl, rfl⟩
  · have g1 : ¬ (c : Int) < 128 := by omega
    rw [if_neg h1]
    by_cases h2 : 192 ≤ c ∧ c < 224
    · have g2 : (192 : Int) ≤ (c : Int) := by omega
      have g3 : (c : Int) < 224 := by omega
      have g4 : (c : Int) - 192 = ((c - 192 : Nat) : Int) := by omega
      rw [if_pos h2]
      clear h2 h1
      generalize c - 192 = d at g4 ⊢
      go_enter Tryd.func24, Tryd.ntmps24
      go_wp2
      go_ret2
      exact ⟨rfl, rfl⟩
    · rw [if_neg h2]
      by_cases h3 : 224 ≤ c ∧ c < 240
      · have g2 : (192 : Int) ≤ (c : Int) := by omega
        have g3 : ¬ (c : Int) < 224 := by omega
        have g4 : (224 : Int) ≤ (c : Int) := by omega
        have g5 : (c : Int) < 240 := by omega
        have g6 : (c : Int) - 224 = ((c - 224 : Nat) : Int) := by omega
        rw [if_pos h3]
        clear h3 h2 h1
        generalize c - 224 = d at g6 ⊢
        go_enter Tryd.func24, Tryd.ntmps24
        go_wp2
        go_ret2
        exact ⟨rfl, rfl⟩
      · rw [if_neg h3]
        by_cases h4 : 240 ≤ c ∧ c < 248
        · have g2 : (192 : Int) ≤ (c : Int) := by omega
          have g3 : ¬ (c : Int) < 224 := by omega
          have g4 : (224 : Int) ≤ (c : Int) := by omega
          have g5 : ¬ (c : Int) < 240 := by omega
          have g6 : (240 : Int) ≤ (c : Int) := by omega
          have g7 : (c : Int) < 248 := by omega
          have g8 : (c : Int) - 240 = ((c - 240 : Nat) : Int) := by omega
          rw [if_pos h4]
          clear h4 h3 h2 h1
          generalize c - 240 = d at g8 ⊢
          go_enter Tryd.func24, Tryd.ntmps24
          go_wp2
          go_ret2
          exact ⟨rfl, rfl⟩
        · rw [if_neg h4]
          by_cases h5 : 192 ≤ c
          · have g2 : (192 : Int) ≤ (c : Int) := by omega
            have g3 : ¬ (c : Int) < 224 := by omega
            have g4 : (224 : Int) ≤ (c : Int) := by omega
            have g5 : ¬ (c : Int) < 240 := by omega
            have g6 : (240 : Int) ≤ (c : Int) := by omega
            have g7 : ¬ (c : Int) < 248 := by omega
            clear h5 h4 h3 h2 h1
            go_enter Tryd.func24, Tryd.ntmps24
            go_wp2
            go_ret2
            exact ⟨rfl, rfl⟩
          · have g2 : ¬ (192 : Int) ≤ (c : Int) := by omega
            have g4 : ¬ (224 : Int) ≤ (c : Int) := by omega
            have g6 : ¬ (240 : Int) ≤ (c : Int) := by omega
            clear h5 h4 h3 h2 h1
            go_enter Tryd.func24, Tryd.ntmps24
            go_wp2
            go_ret2
            exact ⟨rfl, rfl⟩

set_option maxRecDepth 20000 in
set_option maxHeartbeats 8000000 in
theorem rnext (l : List UInt8) (a : Nat) (w : World) (ha : a < l.length) (hs : l.length ≤ 1000000) : Calls Tryd.prog 18 #[.string (tx l), .int .i64 a] w fun e w' => e = .returned (.tuple #[.int .i64 (nextF l a).1, .int .i64 (nextF l a).2]) ∧ Only (fun _ => False) w w' := by
  have hz : (tx l).size = l.length := tx_size l
  obtain ⟨b, hb⟩ : ∃ b, (tx l)[a]'(by omega) = b := ⟨_, rfl⟩
  have eb : l.getD a 0 = b := by rw [← hb, tx_byte]
  have HR := Lib.hid (rlong b.toNat w b.toNat_lt)
  have hle := longF_le b.toNat
  have HX : Hid (nextF l a = if (longF b.toNat).1 = 0 ∨ l.length < a + (longF b.toNat).1 then (0, 0) else endF (longF b.toNat).1 (contF l a ((longF b.toNat).1 - 1) 1 (longF b.toNat).2)) := Lib.hid (by unfold nextF; rw [eb])
  obtain ⟨n, hn⟩ : ∃ n, (longF b.toNat).1 = n := ⟨_, rfl⟩
  obtain ⟨c0, hc0⟩ : ∃ c, (longF b.toNat).2 = c := ⟨_, rfl⟩
  rw [hn, hc0] at HX hle HR
  obtain ⟨N, hN⟩ : ∃ N, l.length = N := ⟨_, rfl⟩
  rw [hN] at HX hz hs ha
  clear eb hn hc0
  go_enter Tryd.func18, Tryd.ntmps18
  go_wp2_with fail
  refine HR.out.mono ?_
  rintro e _ ⟨rfl, rfl⟩
  clear HR
  by_cases h0 : n = 0
  · subst h0
    have HE : Hid (nextF l a = (0, 0)) := Lib.hid (by rw [HX.out, if_pos (.inl rfl)])
    go_wp2
    go_ret2
    rw [HE.out]
    exact ⟨rfl, Only.refl _ w⟩
  · have h01 : ¬ (n : Int) = 0 := by omega
    by_cases h1 : N < a + n
    · have h11 : (N : Int) < (a : Int) + (n : Int) := by omega
      have HE : Hid (nextF l a = (0, 0)) := Lib.hid (by rw [HX.out, if_pos (.inr h1)])
      go_wp2
      go_ret2
      rw [HE.out]
      exact ⟨rfl, Only.refl _ w⟩
    · have h11 : ¬ (N : Int) < (a : Int) + (n : Int) := by omega
      have HY : Hid (nextF l a = endF n (contF l a (n - 1) 1 c0)) := Lib.hid (by rw [HX.out, if_neg (by omega)])
      have h12 : ((n : Int) == 0) = false := by rw [beq_eq_false_iff_ne]; exact h01
      have h13 : decide ((N : Int) < (a : Int) + (n : Int)) = false := decide_eq_false h11
      clear HX
      go_wp2_with fail
      go_loopg [7, 8] (n - 1) (fun gk u v wx => ∃ code k : Nat, u = .int .i64 code ∧ v = .int .i64 k ∧ k + gk = n ∧ 1 ≤ k ∧ code ≤ 40000000 ∧ (k = 1 → code < 128) ∧ (k = 2 → code < 8192) ∧ (k = 3 → code < 524288) ∧ wx = w ∧ Hid (contF l a (n - 1) 1 c0 = contF l a gk k code))
      case atStart => exact ⟨c0, 1, rfl, rfl, by omega, by omega, by omega, by omega, by omega, by omega, rfl, Lib.hid rfl⟩
      case round =>
        obtain ⟨code, k, rfl, rfl, hk, hk1, hc, hc1, hc2, hc3, rfl, HC⟩ := hrel
        by_cases hlt : k < n
        · obtain ⟨g, rfl⟩ : ∃ g, gk = g + 1 := ⟨gk - 1, by omega⟩
          have hlt2 : (k : Int) < (n : Int) := by omega
          obtain ⟨p, hp⟩ : ∃ p, a + k = p := ⟨_, rfl⟩
          have hp2 : (a : Int) + (k : Int) = (p : Int) := by omega
          obtain ⟨x, hx⟩ : ∃ x, (tx l)[p]'(by omega) = x := ⟨_, rfl⟩
          have ex : l.getD (a + k) 0 = x := by rw [← hx, tx_byte, hp]
          have HS : Hid (contF l a (g + 1) k code = if x.toNat < 128 ∨ 192 ≤ x.toNat then none else contF l a g (k + 1) (64 * code + x.toNat - 128)) := Lib.hid (by rw [contF, ex])
          clear ex
          by_cases g1 : x.toNat < 128
          · have g2 : (x.toNat : Int) < 128 := by omega
            have HE : Hid (nextF l a = (0, 0)) := Lib.hid (by rw [HY.out, HC.out, HS.out, if_pos (.inl g1)]; rfl)
            go_wp2
            go_ret2
            rw [HE.out]
            exact ⟨rfl, Only.refl _ _⟩
          · have g2 : ¬ (x.toNat : Int) < 128 := by omega
            by_cases g3 : 192 ≤ x.toNat
            · have g4 : (192 : Int) ≤ (x.toNat : Int) := by omega
              have HE : Hid (nextF l a = (0, 0)) := Lib.hid (by rw [HY.out, HC.out, HS.out, if_pos (.inr g3)]; rfl)
              go_wp2
              go_ret2
              rw [HE.out]
              exact ⟨rfl, Only.refl _ _⟩
            · have g4 : ¬ (192 : Int) ≤ (x.toNat : Int) := by omega
              obtain ⟨c2, hcc⟩ : ∃ c2, 64 * code + x.toNat - 128 = c2 := ⟨_, rfl⟩
              have hcc2 : 64 * (code : Int) + (x.toNat : Int) - 128 = (c2 : Int) := by omega
              have HE : Hid (contF l a (n - 1) 1 c0 = contF l a g (k + 1) c2) := Lib.hid (by rw [HC.out, HS.out, if_neg (by omega), hcc])
              go_wp2_with fail
              go_roundg g
              case measure => omega
              case rel => exact ⟨c2, k + 1, by go_num, by go_num, by omega, by omega, by omega, by omega, by omega, by omega, rfl, HE⟩
        · obtain rfl : gk = 0 := by omega
          obtain rfl : k = n := by omega
          have hlt2 : ¬ (k : Int) < (k : Int) := by omega
          obtain ⟨L, hL⟩ : ∃ L, leastC k = L := ⟨_, rfl⟩
          have HE : Hid (nextF l a = if code < L ∨ 1114111 < code ∨ (55296 ≤ code ∧ code < 57344) then (0, 0) else (code, k)) := Lib.hid (by rw [HY.out, HC.out, contF, endF, hL])
          have hld : ∀ W : World, (W.alloc (.cells #[.int .i64 0, .int .i64 0, .int .i64 128, .int .i64 2048, .int .i64 65536] 3)).cell? ⟨W.heap.size, k, none⟩ = some (.int .i64 (L : Nat)) := fun W => by
            refine (Is.new W 3 [.int .i64 0, .int .i64 0, .int .i64 128, .int .i64 2048, .int .i64 65536]).cell k ?_
            rw [← hL]
            rcases (show k = 1 ∨ k = 2 ∨ k = 3 ∨ k = 4 by omega) with rfl | rfl | rfl | rfl <;> rfl
          clear HY HC
          by_cases c1 : code < L
          · have k1 : decide ((code : Int) < (L : Int)) = true := decide_eq_true (by omega)
            have HF : Hid (nextF l a = (0, 0)) := Lib.hid (by rw [HE.out, if_pos (by omega)])
            clear HE
            go_wp2
            go_ret2
            rw [HF.out]
            exact ⟨rfl, (Only.refl _ _).alloc _⟩
          · have k1 : decide ((code : Int) < (L : Int)) = false := decide_eq_false (by omega)
            by_cases c2 : 1114111 < code
            · have k2 : decide ((1114111 : Int) < (code : Int)) = true := decide_eq_true (by omega)
              have HF : Hid (nextF l a = (0, 0)) := Lib.hid (by rw [HE.out, if_pos (by omega)])
              clear HE
              go_wp2
              go_ret2
              rw [HF.out]
              exact ⟨rfl, (Only.refl _ _).alloc _⟩
            · have k2 : decide ((1114111 : Int) < (code : Int)) = false := decide_eq_false (by omega)
              by_cases c3 : 55296 ≤ code
              · have k3 : decide ((55296 : Int) ≤ (code : Int)) = true := decide_eq_true (by omega)
                by_cases c4 : code < 57344
                · have k4 : decide ((code : Int) < 57344) = true := decide_eq_true (by omega)
                  have HF : Hid (nextF l a = (0, 0)) := Lib.hid (by rw [HE.out, if_pos (by omega)])
                  clear HE
                  go_wp2
                  go_ret2
                  rw [HF.out]
                  exact ⟨rfl, (Only.refl _ _).alloc _⟩
                · have k4 : decide ((code : Int) < 57344) = false := decide_eq_false (by omega)
                  have HF : Hid (nextF l a = (code, k)) := Lib.hid (by rw [HE.out, if_neg (by omega)])
                  clear HE
                  go_wp2
                  go_ret2
                  rw [HF.out]
                  exact ⟨rfl, (Only.refl _ _).alloc _⟩
              · have k3 : decide ((55296 : Int) ≤ (code : Int)) = false := decide_eq_false (by omega)
                have HF : Hid (nextF l a = (code, k)) := Lib.hid (by rw [HE.out, if_neg (by omega)])
                clear HE
                go_wp2
                go_ret2
                rw [HF.out]
                exact ⟨rfl, (Only.refl _ _).alloc _⟩
end Go.Proofs.YtmdcnkcbieifpaaDoor
