/- Layer 7, the program: symbols of lengths and of distances. -/
import Derived.Test.YtjlkjebmilfgoaaGreatM3
import Derived.Test.YtjlkjebmilfgoaaGreatTShelf
import Derived.Laws.BitsLemmas
import Derived.OwnWalk
import Derived.Test.YtjlkjebmilfgoaaGreatM8
/- Layer 7: whether a token may be, in the program and by the document. -/
namespace Go.Proofs.YtjlkjebmilfgoaaGreat
open Go.RowKit

theorem isLength (x : Int) (w : World) : Calls Tryz.prog 69 #[.int .i64 x] w fun e w' => e = .returned (.bool (isLen x)) ∧ w' = w := by
  by_cases h1 : 3 ≤ x
  · by_cases h2 : x ≤ 258
    · have hE : isLen x = true := by simp [isLen, h1, h2]
      rw [hE]
      go_enter Tryz.func69, Tryz.ntmps69
      go_wp2
      go_ret
      exact ⟨rfl, rfl⟩
    · have hE : isLen x = false := by simp [isLen, h2]
      rw [hE]
      go_enter Tryz.func69, Tryz.ntmps69
      go_wp2
      go_ret
      exact ⟨rfl, rfl⟩
  · have hE : isLen x = false := by simp [isLen, h1]
    rw [hE]
    go_enter Tryz.func69, Tryz.ntmps69
    go_wp2
    go_ret
    exact ⟨rfl, rfl⟩
theorem isDistance (x : Int) (w : World) : Calls Tryz.prog 70 #[.int .i64 x] w fun e w' => e = .returned (.bool (isDist x)) ∧ w' = w := by
  by_cases h1 : 1 ≤ x
  · by_cases h2 : x ≤ 32768
    · have hE : isDist x = true := by simp [isDist, h1, h2]
      rw [hE]
      go_enter Tryz.func70, Tryz.ntmps70
      go_wp2
      go_ret
      exact ⟨rfl, rfl⟩
    · have hE : isDist x = false := by simp [isDist, h2]
      rw [hE]
      go_enter Tryz.func70, Tryz.ntmps70
      go_wp2
      go_ret
      exact ⟨rfl, rfl⟩
  · have hE : isDist x = false := by simp [isDist, h1]
    rw [hE]
    go_enter Tryz.func70, Tryz.ntmps70
    go_wp2
    go_ret
    exact ⟨rfl, rfl⟩

def MayPost (t : Tk) (w : World) (e : Ending) (w' : World) : Prop := e = .returned (.bool (mayB t)) ∧ Only (fun _ => False) w w'

theorem may_n0 (b : UInt8) (n k : Int) (h : n = 0) : mayB ⟨b, n, k⟩ = decide (k = 0) := by simp [mayB, h]
theorem may_n1 (b : UInt8) (n k : Int) (h : ¬ n = 0) : mayB ⟨b, n, k⟩ = (isLen n && isDist k && decide (b.toNat = 0)) := by simp [mayB, h]

theorem rmay (t : Tk) (w : World) : Calls Tryz.prog 37 #[tkV t] w (MayPost t w) := by
  obtain ⟨b, n, k⟩ := t
  have h0 := may_n0 b n k
  have h1 := may_n1 b n k
  unfold MayPost tkV
  obtain ⟨r, hr⟩ : ∃ r, mayB ⟨b, n, k⟩ = r := ⟨_, rfl⟩
  obtain ⟨y, hy⟩ : ∃ y, b.toNat = y := ⟨_, rfl⟩
  simp only [hr, hy] at h0 h1 ⊢
  clear hr hy
  have HO := Lib.hid ((Only.refl (fun _ => False) w).alloc (.cells #[.int .u8 y, .int .i64 n, .int .i64 k] 81))
  by_cases hn : n = 0
  · have h2 := h0 hn
    clear h0 h1
    subst hn
    by_cases hk : k = 0
    · subst hk
      obtain rfl : r = true := by simpa using h2
      clear h2
      go_enter Tryz.func37, Tryz.ntmps37
      go_wp2
      go_ret
      exact ⟨rfl, HO.out⟩
    · obtain rfl : r = false := by simpa [hk] using h2
      clear h2
      have hk2 : (k == 0) = false := by simp [hk]
      go_enter Tryz.func37, Tryz.ntmps37
      go_wp2
      go_ret
      exact ⟨rfl, HO.out⟩
  · have h2 := h1 hn
    clear h0 h1
    have HR := Lib.hid h2
    clear h2
    by_cases g1 : 3 ≤ n
    · by_cases g2 : n ≤ 258
      · by_cases g3 : 1 ≤ k
        · by_cases g4 : k ≤ 32768
          · by_cases g5 : y = 0
            · subst g5
              obtain rfl : r = true := by simpa [isLen, isDist, g1, g2, g3, g4] using HR.out
              clear HR
              go_enter Tryz.func37, Tryz.ntmps37
              go_wp2
              go_ret
              exact ⟨rfl, HO.out⟩
            · obtain rfl : r = false := by simpa [isLen, isDist, g1, g2, g3, g4, g5] using HR.out
              clear HR
              have hy2 : ((y : Int) == 0) = false := by simp; omega
              go_enter Tryz.func37, Tryz.ntmps37
              go_wp2
              go_ret
              exact ⟨rfl, HO.out⟩
          · obtain rfl : r = false := by simpa [isLen, isDist, g1, g2, g3, g4] using HR.out
            clear HR
            go_enter Tryz.func37, Tryz.ntmps37
            go_wp2
            go_ret
            exact ⟨rfl, HO.out⟩
        · obtain rfl : r = false := by simpa [isLen, isDist, g1, g2, g3] using HR.out
          clear HR
          go_enter Tryz.func37, Tryz.ntmps37
          go_wp2
          go_ret
          exact ⟨rfl, HO.out⟩
      · obtain rfl : r = false := by simpa [isLen, isDist, g1, g2] using HR.out
        clear HR
        go_enter Tryz.func37, Tryz.ntmps37
        go_wp2
        go_ret
        exact ⟨rfl, HO.out⟩
    · obtain rfl : r = false := by simpa [isLen, isDist, g1] using HR.out
      clear HR
      go_enter Tryz.func37, Tryz.ntmps37
      go_wp2
      go_ret
      exact ⟨rfl, HO.out⟩
end Go.Proofs.YtjlkjebmilfgoaaGreat

/- Layer 7: a number taken apart into its symbol and the bits behind it, and joined again, in the program. -/
namespace Go.Proofs.YtjlkjebmilfgoaaGreat
open Go.RowKit

def SplitPost (w : World) (i v m : Nat) (e : Ending) (w' : World) : Prop := e = .returned (.tuple #[.int .i64 (i : Nat), .int .i64 (v : Nat), .int .i64 (m : Nat)]) ∧ Only (fun _ => False) w w'

theorem pow_le (v : Nat) (h : v ≤ 15) : 2 ^ v ≤ 32768 := Nat.pow_le_pow_right (n := 2) (j := 15) (by decide) h
theorem in64 (n : Nat) (h : n ≤ 1000000) : wrap64 (n : Int) = (n : Int) := IntWalk.wrap64_in _ (by omega)
theorem low_bits (x v : Nat) (hx : x ≤ 32767) (hv : v ≤ 15) : bits BinOp.and IntKind.i64 (x : Int) (wrap64 (wrap64 (2 ^ v) - 1)) = ((x % 2 ^ v : Nat) : Int) := by
  have h1 := pow_le v hv
  have h2 : 0 < 2 ^ v := Nat.pow_pos (by decide)
  have e : ((2 : Int) ^ v) = ((2 ^ v : Nat) : Int) := by simp
  have e63 : (2 : Int) ^ 63 = 9223372036854775808 := by decide
  have h := bits_mask .i64 63 (by decide) (fun n h0 h1 => IntWalk.i64_in _ (by omega)) v (by omega) (x : Int) (by omega) (by omega)
  rw [e] at h ⊢
  generalize 2 ^ v = p at h h1 h2 ⊢
  rw [in64 p (by omega), show ((p : Int) - 1) = ((p - 1 : Nat) : Int) from by omega, in64 _ (by omega), show ((p - 1 : Nat) : Int) = (p : Int) - 1 from by omega, h]
  simp
theorem split_sum (x v G : Nat) (hx : x ≤ 32767) (hv : v ≤ 15) (hG : G ≤ 2) : wrap64 (wrap64 ((v : Int) * 2 ^ G) + (x : Int) / 2 ^ v) = ((v * 2 ^ G + x / 2 ^ v : Nat) : Int) := by
  have h1 : 2 ^ G ≤ 4 := Nat.pow_le_pow_right (n := 2) (j := 2) (by decide) hG
  have h3 : v * 2 ^ G ≤ 15 * 4 := Nat.mul_le_mul hv h1
  have h4 : x / 2 ^ v ≤ x := Nat.div_le_self _ _
  have e1 : ((v : Int) * 2 ^ G) = ((v * 2 ^ G : Nat) : Int) := by simp
  have e2 : ((x : Int) / 2 ^ v) = ((x / 2 ^ v : Nat) : Int) := by simp
  rw [e1, e2]
  generalize v * 2 ^ G = p at h3 ⊢
  generalize x / 2 ^ v = q at h4 ⊢
  rw [in64 p (by omega), show (p : Int) + (q : Int) = ((p + q : Nat) : Int) from by omega, in64 _ (by omega)]

set_option maxHeartbeats 2000000 in
theorem split (x G L v : Nat) (w : World) (hx : x ≤ 32767) (hL : Lib.bitLen x = L) (h15 : L ≤ 15) (hG : G ≤ 2) (hv : L - (G + 1) = v) : Calls Tryz.prog 100 #[.int .i64 x, .int .i64 G] w (SplitPost w (v * 2 ^ G + x / 2 ^ v) v (x % 2 ^ v)) := by
  have HL := Lib.hid hL
  have e : max (0 : Int) ((L : Int) - (G : Int) - 1) = (v : Int) := by omega
  have hv13 : v ≤ 15 := by omega
  clear hL hv
  have E1 := Lib.hid (split_sum x v G hx hv13 hG)
  have E2 := Lib.hid (low_bits x v hx hv13)
  obtain ⟨a, ha⟩ : ∃ a, v * 2 ^ G + x / 2 ^ v = a := ⟨_, rfl⟩
  obtain ⟨m, hm⟩ : ∃ m, x % 2 ^ v = m := ⟨_, rfl⟩
  rw [ha] at E1
  rw [hm] at E2
  rw [ha, hm]
  clear ha hm
  go_enter Tryz.func100, Tryz.ntmps100
  go_wp2_with (go_at_call 122; refine (Tryz.bits_Len _ _ ?_ ?_).mono ?_; omega; omega; rintro e w' ⟨rfl, rfl⟩; rw [Int.toNat_natCast, HL.out])
  try rw [e]
  clear e
  go_quiet (fail)
  rw [E1.out, E2.out]
  go_wp2
  go_ret3
  exact ⟨rfl, (Only.refl _ _).drewN _⟩

def JoinPost (w : World) (r : Int) (ok : Bool) (e : Ending) (w' : World) : Prop := e = .returned (.tuple #[.int .i64 r, .bool ok]) ∧ w' = w

/-- The numbers on joining's way. -/
structure JoinNums (i G v P Q D T : Nat) : Prop where
  w : max (0 : Int) (wrap64 ((i : Int) / 2 ^ G - 1)) = (v : Int)
  p : wrap64 ((2 : Int) ^ v) = (P : Int)
  q : wrap64 ((v : Int) * 2 ^ G) = (Q : Int)
  d : (i : Int) - (Q : Int) = (D : Int)
  t : wrap64 ((D : Int) * 2 ^ v) = (T : Int)
  p2 : P = 2 ^ v
  t2 : T = (i - v * 2 ^ G) * 2 ^ v
  v15 : v ≤ 15
  p15 : P ≤ 32768
  q60 : Q ≤ 60
  t60 : T ≤ 950272
theorem join_nums (i G v : Nat) (hi : i ≤ 29) (hG : G ≤ 2) (hv : i / 2 ^ G - 1 = v) (hv15 : v ≤ 15) : JoinNums i G v (2 ^ v) (v * 2 ^ G) (i - v * 2 ^ G) ((i - v * 2 ^ G) * 2 ^ v) := by
  have h1 : 2 ^ G ≤ 4 := Nat.pow_le_pow_right (n := 2) (j := 2) (by decide) hG
  have h2 := pow_le v hv15
  have h3 : v * 2 ^ G ≤ 15 * 4 := Nat.mul_le_mul hv15 h1
  have h4 : v * 2 ^ G ≤ i := Nat.le_trans (Nat.mul_le_mul_right _ (hv ▸ Nat.sub_le _ _ : v ≤ i / 2 ^ G)) (Nat.div_mul_le_self i (2 ^ G))
  have h5 : (i - v * 2 ^ G) * 2 ^ v ≤ 29 * 32768 := Nat.mul_le_mul (by omega) h2
  have h6 : i / 2 ^ G ≤ i := Nat.div_le_self _ _
  have e0 : ((i : Int) / 2 ^ G) = ((i / 2 ^ G : Nat) : Int) := by simp
  have e1 : ((v : Int) * 2 ^ G) = ((v * 2 ^ G : Nat) : Int) := by simp
  have e2 : ((i - v * 2 ^ G : Nat) : Int) * 2 ^ v = (((i - v * 2 ^ G) * 2 ^ v : Nat) : Int) := by simp
  have e3 : ((2 : Int) ^ v) = ((2 ^ v : Nat) : Int) := by simp
  refine ⟨?_, ?_, ?_, ?_, ?_, rfl, rfl, hv15, h2, h3, h5⟩
  · rw [e0]
    clear h4 h5 e0 e1 e2 e3
    generalize i / 2 ^ G = d at hv h6 ⊢
    rw [IntWalk.wrap64_in _ (by omega)]
    omega
  · rw [e3, in64 _ (by omega)]
  · rw [e1, in64 _ (by omega)]
  · clear e0 e1 e2 e3
    generalize v * 2 ^ G = d at h4 ⊢
    omega
  · rw [e2, in64 _ (by omega)]

end Go.Proofs.YtjlkjebmilfgoaaGreat

/- Layer 7: the symbols of lengths and distances, and what they say, in the program. -/
namespace Go.Proofs.YtjlkjebmilfgoaaGreat
open Go.RowKit

def FourPost (w : World) (a b c : Int) (ok : Bool) (e : Ending) (w' : World) : Prop := e = .returned (.tuple #[.int .i64 a, .int .i64 b, .int .i64 c, .bool ok]) ∧ Only (fun _ => False) w w'
def TwoPost (w : World) (r : Int) (ok : Bool) (e : Ending) (w' : World) : Prop := e = .returned (.tuple #[.int .i64 r, .bool ok]) ∧ Only (fun _ => False) w w'
/-- Results that lie in slots, however many but one. -/
theorem results_slots {P : Program} {fn : Func} {w : World} {tmps : Array Value} (ts : List Tmp) (hl : ts.length ≠ 1) (h : fn.results.toList = ts.map ResultVar.tmp) : Sem.run P (results fn tmps) w = .ok (.tuple (ts.map fun t => tmps.getD t undef).toArray) w := by
  have e : fn.results = (ts.map ResultVar.tmp).toArray := by rw [← h]
  unfold results
  rw [e, List.mapM_toArray, List.mapM_map]
  simp only [Function.comp_def, List.mapM_pure, map_pure, pure_bind, List.size_toArray, List.length_map, dif_neg hl, Sem.run_pure]

set_option maxRecDepth 20000 in
set_option maxHeartbeats 2000000 in
theorem length_no (n : Int) (w : World) (h : n < 3 ∨ 258 < n) : Calls Tryz.prog 73 #[.int .i64 n] w (FourPost w 0 0 0 false) := by
  have HL : Hid (isLen n = false) := Lib.hid (by simp [isLen]; omega)
  clear h
  go_enter Tryz.func73, Tryz.ntmps73
  go_wp2_with (go_at_call 69; refine (isLength _ _).mono ?_; rintro e w' ⟨rfl, rfl⟩; rw [HL.out])
  (try simp only [Exit.inBlock, Exit.then]); refine bodyPost_ret (results_slots [2, 3, 4, 5] (by decide) rfl) rfl ?_
  exact ⟨rfl, Only.refl _ _⟩
set_option maxRecDepth 20000 in
set_option maxHeartbeats 2000000 in
theorem length_last (w : World) : Calls Tryz.prog 73 #[.int .i64 258] w (FourPost w 285 0 0 true) := by
  have HL : Hid (isLen 258 = true) := Lib.hid rfl
  go_enter Tryz.func73, Tryz.ntmps73
  go_wp2_with (go_at_call 69; refine (isLength _ _).mono ?_; rintro e w' ⟨rfl, rfl⟩; rw [HL.out])
  (try simp only [Exit.inBlock, Exit.then]); refine bodyPost_ret (results_slots [2, 3, 4, 5] (by decide) rfl) rfl ?_
  exact ⟨rfl, Only.refl _ _⟩
set_option maxRecDepth 20000 in
set_option maxHeartbeats 2000000 in
theorem length_row (N X v i m : Nat) (w : World) (h3 : X + 3 = N) (h : N ≤ 257) (hi : i ≤ 29) (hs : ∀ w, Calls Tryz.prog 100 #[.int .i64 X, .int .i64 2] w (SplitPost w i v m)) : Calls Tryz.prog 73 #[.int .i64 N] w (FourPost w ((257 + i : Nat) : Int) (v : Nat) (m : Nat) true) := by
  have HL : Hid (isLen N = true) := Lib.hid (by simp [isLen]; omega)
  have e : (N : Int) - 3 = (X : Int) := by omega
  have hN : ((N : Int) == 258) = false := by simp; omega
  have hN2 : ¬ (N : Int) = 258 := by omega
  go_enter Tryz.func73, Tryz.ntmps73
  go_wp2_with (first
    | (go_at_call 69; refine (isLength _ _).mono ?_; rintro e w' ⟨rfl, rfl⟩; rw [HL.out])
    | (go_at_call 100; refine (hs _).mono ?_; rintro e w2 ⟨rfl, ho⟩; have HO := Lib.hid ho; clear ho))
  (try simp only [Exit.inBlock, Exit.then]); refine bodyPost_ret (results_slots [2, 3, 4, 5] (by decide) rfl) rfl ?_
  exact ⟨by simp, HO.out⟩
theorem length (n a b c : Int) (ok : Bool) (w : World) (h : LenIs n a b c ok) : Calls Tryz.prog 73 #[.int .i64 n] w (FourPost w a b c ok) := by
  cases h with
  | no _ h => exact length_no n w h
  | last => exact length_last w
  | row s m hs hm h =>
    obtain ⟨k, hr, hf⟩ := lrowIs s hs
    have hx : k * 2 ^ lb s + m ≤ 32767 := by omega
    obtain ⟨b1, b2, b3, b4⟩ := hr.bits (.inr rfl) m hm hx
    refine length_row (lf s + m) (k * 2 ^ lb s + m) (lb s) s m w (by omega) h (by omega) fun w => ?_
    have := split (k * 2 ^ lb s + m) 2 _ (lb s) w hx rfl b2 (by decide) b1
    rw [b3, b4, hr.sym] at this
    exact this

set_option maxRecDepth 20000 in
set_option maxHeartbeats 2000000 in
theorem distance_no (n : Int) (w : World) (h : n < 1 ∨ 32768 < n) : Calls Tryz.prog 74 #[.int .i64 n] w (FourPost w 0 0 0 false) := by
  have HL : Hid (isDist n = false) := Lib.hid (by simp [isDist]; omega)
  clear h
  go_enter Tryz.func74, Tryz.ntmps74
  go_wp2_with (go_at_call 70; refine (isDistance _ _).mono ?_; rintro e w' ⟨rfl, rfl⟩; rw [HL.out])
  (try simp only [Exit.inBlock, Exit.then]); refine bodyPost_ret (results_slots [2, 3, 4, 5] (by decide) rfl) rfl ?_
  exact ⟨rfl, Only.refl _ _⟩
set_option maxRecDepth 20000 in
set_option maxHeartbeats 2000000 in
theorem distance_row (N X v i m : Nat) (w : World) (h3 : X + 1 = N) (h : N ≤ 32768) (hs : ∀ w, Calls Tryz.prog 100 #[.int .i64 X, .int .i64 1] w (SplitPost w i v m)) : Calls Tryz.prog 74 #[.int .i64 N] w (FourPost w (i : Nat) (v : Nat) (m : Nat) true) := by
  have HL : Hid (isDist N = true) := Lib.hid (by simp [isDist]; omega)
  have e : (N : Int) - 1 = (X : Int) := by omega
  go_enter Tryz.func74, Tryz.ntmps74
  go_wp2_with (first
    | (go_at_call 70; refine (isDistance _ _).mono ?_; rintro e w' ⟨rfl, rfl⟩; rw [HL.out])
    | (go_at_call 100; refine (hs _).mono ?_; rintro e w2 ⟨rfl, ho⟩; have HO := Lib.hid ho; clear ho))
  (try simp only [Exit.inBlock, Exit.then]); refine bodyPost_ret (results_slots [2, 3, 4, 5] (by decide) rfl) rfl ?_
  exact ⟨by simp, HO.out⟩
theorem df_top : ∀ s : Fin 30, df s.val + 2 ^ db s.val ≤ 32769 := by decide +kernel
theorem distance (n a b c : Int) (ok : Bool) (w : World) (h : DistIs n a b c ok) : Calls Tryz.prog 74 #[.int .i64 n] w (FourPost w a b c ok) := by
  cases h with
  | no _ h => exact distance_no n w h
  | row s m hs hm =>
    obtain ⟨k, hr, hf⟩ := drowIs s hs
    have ht := df_top ⟨s, hs⟩
    simp only at ht
    have hx : k * 2 ^ db s + m ≤ 32767 := by omega
    obtain ⟨b1, b2, b3, b4⟩ := hr.bits (.inl rfl) m hm hx
    refine distance_row (df s + m) (k * 2 ^ db s + m) (db s) s m w (by omega) (by omega) fun w => ?_
    have := split (k * 2 ^ db s + m) 1 _ (db s) w hx rfl b2 (by decide) b1
    rw [b3, b4, hr.sym] at this
    exact this
end Go.Proofs.YtjlkjebmilfgoaaGreat

/- Layer 7: what symbols say, in the program. -/
namespace Go.Proofs.YtjlkjebmilfgoaaGreat
open Go.RowKit

end Go.Proofs.YtjlkjebmilfgoaaGreat
