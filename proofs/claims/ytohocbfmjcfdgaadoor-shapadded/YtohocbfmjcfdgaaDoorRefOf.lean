/- Layer 4: the document's key. -/
import Derived.Test.YtohocbfmjcfdgaaDoorWords
namespace Go.Proofs.YtohocbfmjcfdgaaDoor
open Go.RowKit

/-- The document's two rows: the eight numbers, and the numbers of the rounds. -/
def RS (w : World) (gh ch gk ck : Nat) (st : St) (wx : World) : Prop := Row 33 wx (some ⟨gh, 0, none⟩) 8 ch (nums st.list) ∧ Row 33 wx (some ⟨gk, 0, none⟩) 64 ck (nums consts) ∧ Only (fun _ => False) w wx
theorem RS.only {w wx wy : World} {gh ch gk ck : Nat} {st : St} (h : RS w gh ch gk ck st wx) (k : Only (fun _ => False) wx wy) : RS w gh ch gk ck st wy := ⟨h.1.stay k, h.2.1.stay k, h.2.2.trans k⟩
theorem Src.ofRow {P : Program} {tx e : TypeId} (hk : P.underlying tx = some (.slice e)) {w : World} {g n c : Nat} {l : List Value} (h : Row e w (some ⟨g, 0, none⟩) n c l) (h1 : ∀ v ∈ l, v.oneCell' = true) : Src P 1 tx (.slice (some ⟨g, 0, none⟩) n c) n l w := by
  refine Src.ofSlice w hk _ n c l (by simpa using h.1) (fun j u hj => ?_) h1
  obtain ⟨g', e1, e2, _⟩ := h.cell hj
  simp only [Option.some.injEq, Addr.mk.injEq, and_true] at e1
  subst e1
  rw [Addr.add_lit, Nat.zero_add]
  exact e2
theorem Row.at {e : TypeId} {w : World} {g n c : Nat} {l : List Value} (h : Row e w (some ⟨g, 0, none⟩) n c l) {i : Nat} {v : Value} (hi : l[i]? = some v) : w.cell? ⟨g, i, none⟩ = some v ∧ w.frozen? ⟨g, i, none⟩ = false := by
  obtain ⟨g', e1, e2, e3⟩ := h.cell hi
  simp only [Option.some.injEq, Addr.mk.injEq, and_true] at e1
  subst e1
  exact ⟨e2, e3⟩
theorem Row.some {e : TypeId} {w : World} {A : Option Addr} {n c : Nat} {l : List Value} (h : Row e w A n c l) (hn : 0 < n) : ∃ g, A = some ⟨g, 0, none⟩ := by
  obtain ⟨_, ⟨_, h0, _⟩ | ⟨g, _, _, h1, _⟩⟩ := h
  · omega
  · exact ⟨g, h1⟩
theorem roots8l (w : World) : Calls Tryd.prog 11 #[.int .i64 8, .int .i64 2] w fun e w' => ∃ (A : Option Addr) (c : Nat), e = .returned (.slice A 8 c) ∧ Made 33 w A 8 c (nums first.list) w' := roots8 w
theorem roots64l (w : World) : Calls Tryd.prog 11 #[.int .i64 64, .int .i64 3] w fun e w' => ∃ (A : Option Addr) (c : Nat), e = .returned (.slice A 64 c) ∧ Made 33 w A 64 c (nums consts) w' := roots64 w
theorem right_xor (x y z : Int) (v : Nat) (hv : v < 4294967296) : bits .xor .u32 (bits .xor .u32 ((rightBy x v : Nat) : Int) ((rightBy y v : Nat) : Int)) ((rightBy z v : Nat) : Int) = ((turnedBy x y z v : Nat) : Int) := by
  rw [u32_xor_nat (rightBy x v) (rightBy y v) (rot_lt hv) (rot_lt hv), u32_xor_nat (rightBy x v ^^^ rightBy y v) (rightBy z v) (xor_lt (rot_lt hv) (rot_lt hv)) (rot_lt hv)]
  rfl
theorem ref_temp (a b c d e f g h k w : Nat) (he : e < 4294967296) (hf : f < 4294967296) (hg : g < 4294967296) :
    (((h : Int) + bits .xor .u32 (bits .xor .u32 ((rightBy 6 e : Nat) : Int) ((rightBy 11 e : Nat) : Int)) ((rightBy 25 e : Nat) : Int)
      + bits .xor .u32 (bits .and .u32 (e : Int) (f : Int)) (bits .and .u32 (4294967295 - (e : Int)) (g : Int)) + (k : Int)) % 4294967296 + (w : Int)) % 4294967296 = ((temp ⟨a, b, c, d, e, f, g, h⟩ k w : Nat) : Int) := by
  have h1 : (4294967295 : Int) - (e : Int) = bits .xor .u32 IntKind.u32.max (e : Int) := by
    have h2 : bits .xor .u32 IntKind.u32.max (e : Int) = ((4294967295 ^^^ e : Nat) : Int) := u32_xor_nat 4294967295 e (by decide) he
    rw [h2, not_nat e he]
    omega
  rw [right_xor _ _ _ e he, h1, choose_bits e f g he hf hg, turnedBy1]
  unfold temp
  simp only
  omega
theorem ref_temp2 (a b c d e f g h : Nat) (ha : a < 4294967296) (hb : b < 4294967296) (hc : c < 4294967296) :
    (bits .xor .u32 (bits .xor .u32 ((rightBy 2 a : Nat) : Int) ((rightBy 13 a : Nat) : Int)) ((rightBy 22 a : Nat) : Int)
      + bits .xor .u32 (bits .xor .u32 (bits .and .u32 (a : Int) (b : Int)) (bits .and .u32 (a : Int) (c : Int))) (bits .and .u32 (b : Int) (c : Int))) % 4294967296 = ((temp2 ⟨a, b, c, d, e, f, g, h⟩ : Nat) : Int) := by
  rw [right_xor _ _ _ a ha, most_bits a b c ha hb hc, turnedBy0]
  unfold temp2
  simp only
  omega
theorem half_at (S R : St) (i : Nat) (h : i < 8) : (nums (half S R i))[i]? = some (.int .u32 (S.list.getD i 0 : Nat)) := by
  obtain rfl | rfl | rfl | rfl | rfl | rfl | rfl | rfl : i = 0 ∨ i = 1 ∨ i = 2 ∨ i = 3 ∨ i = 4 ∨ i = 5 ∨ i = 6 ∨ i = 7 := by omega
  all_goals rfl
theorem half_set (S R : St) (i : Nat) (h : i < 8) : (nums (half S R i)).set i (.int .u32 ((S.list.getD i 0 + R.list.getD i 0) % 4294967296 : Nat)) = nums (half S R (i + 1)) := by
  obtain rfl | rfl | rfl | rfl | rfl | rfl | rfl | rfl : i = 0 ∨ i = 1 ∨ i = 2 ∨ i = 3 ∨ i = 4 ∨ i = 5 ∨ i = 6 ∨ i = 7 := by omega
  all_goals rfl
def ROfPost (w : World) (l : List UInt8) (e : Ending) (w' : World) : Prop := e = .returned (.string ⟨(sha l).toArray⟩) ∧ Only (fun _ => False) w w'

set_option maxHeartbeats 4000000 in
set_option maxRecDepth 100000 in
theorem rof (s : ByteArray) (w : World) (hs : s.size ≤ 1000) : Calls Tryd.prog 6 #[.string s] w (ROfPost w s.data.toList) := by
  obtain ⟨l, hl⟩ : ∃ l, s.data.toList = l := ⟨_, rfl⟩
  have C3 := rpadded s
  rw [hl] at C3 ⊢
  have HC3 := Lib.hid C3
  have hpl := pad_length l
  have hll : l.length ≤ 1000 := by rw [← hl]; simpa using hs
  have hpl2 : (pad l).length ≤ 2000 := by
    rw [pad, List.length_append, behind_length]
    have : fill l.length < 64 := Nat.mod_lt _ (by decide)
    omega
  clear C3 hl
  go_enter Tryd.func6, Tryd.ntmps6
  go_wp2_with fail
  refine (roots8l w).mono ?_
  rintro e w1 ⟨A1, c1, rfl, hM1⟩
  obtain ⟨gh, rfl⟩ := hM1.1.some (by decide)
  have HM1 := Lib.hid hM1
  clear hM1
  go_wp2_with fail
  refine (roots64l w1).mono ?_
  rintro e w2 ⟨A2, c2, rfl, hM2⟩
  obtain ⟨gc, rfl⟩ := hM2.1.some (by decide)
  have HM2 := Lib.hid hM2
  clear hM2
  go_wp2_with fail
  refine (HC3.out w2 hs).mono ?_
  rintro e w3 ⟨B, rfl, hBd, hO3⟩
  have hne : gc ≠ gh := by
    have h1 := HM2.out.2.2 gc ⟨_, rfl, rfl⟩
    have h2 := HM1.out.1.lies gh ⟨_, rfl, rfl⟩
    omega
  have hwh : w.heap.size ≤ gh := HM1.out.2.2 gh ⟨_, rfl, rfl⟩
  have HRS : Hid (RS w gh c1 gc c2 first w3) := Lib.hid ⟨(HM1.out.1.stay HM2.out.2.1).stay hO3, HM2.out.1.stay hO3, (HM1.out.2.1.trans HM2.out.2.1).trans hO3⟩
  obtain ⟨n, hn⟩ : ∃ n, (pad l).length / 64 = n := ⟨_, rfl⟩
  have hBs : B.size = 64 * n := by
    have : B.data.toList.length = 64 * n := by rw [hBd]; omega
    simpa using this
  have hBl : B.size ≤ 2000 := by omega
  have HBS := Lib.hid hBs
  have HBD := Lib.hid hBd
  have HN := Lib.hid hn
  clear HM1 HM2 hO3 HC3 hBs hBd hn hpl hpl2 hll
  go_wp2_with fail
  go_loopg [5] n (fun gkk vi wx => ∃ j y : Nat, vi = .int .i64 y ∧ y = 64 * j ∧ j + gkk ≤ n ∧ n ≤ j + gkk ∧ RS w gh c1 gc c2 (blocks (pad l) first j) wx)
  case atStart => exact ⟨0, 0, rfl, by omega, by omega, by omega, HRS.out⟩
  case round =>
    obtain ⟨j, y, rfl, hy, hk, hk2, hI⟩ := hrel
    clear HRS
    have hBs := HBS.out
    by_cases hlt : j < n
    · have hnx : blocks (pad l) first (j + 1) = (blocks (pad l) first j).plus (rounds (wds (part (pad l) j) 64) (blocks (pad l) first j) 64) := rfl
      have hok := blocks_ok (pad l) first_ok j
      have hpt : (B.extract y (y + 64)).data.toList = part (pad l) j := by
        rw [Lib.extract_data, HBD.out, hy, Nat.add_sub_cancel_left]
        rfl
      have hsz : (B.extract y (y + 64)).size = 64 := by simp; omega
      obtain ⟨S, hS⟩ : ∃ S, blocks (pad l) first j = S := ⟨_, rfl⟩
      rw [hS] at hI hnx hok
      obtain ⟨y2, hy2⟩ : ∃ y2, y + 64 = y2 := ⟨_, rfl⟩
      rw [hy2] at hpt hsz
      have e1 : (y : Int) + 64 = (y2 : Int) := by omega
      have e2 : (y : Int) < (B.size : Int) := by omega
      have d2 : decide ((y : Int) < (B.size : Int)) = true := by simp; omega
      have e3 : y2 ≤ B.size := by omega
      have e4 : y ≤ y2 := by omega
      have C := rwords (B.extract y y2) wr hsz
      unfold WordsPost at C
      rw [hpt] at C
      have hwl := wds_length (part (pad l) j) 64
      obtain ⟨ws, hws⟩ : ∃ ws, wds (part (pad l) j) 64 = ws := ⟨_, rfl⟩
      rw [hws] at C hnx hwl
      have HC := Lib.hid C
      have HI := Lib.hid hI
      have HNX := Lib.hid hnx
      have HY := Lib.hid hy
      have HY2 := Lib.hid hy2
      clear C hI hnx hpt hsz hS hBs hy2 hy hws
      go_wp2_with fail
      refine HC.out.mono ?_
      rintro e w4 ⟨A4, c4, rfl, hM4⟩
      obtain ⟨gw, rfl⟩ := hM4.1.some (by decide)
      have HW := Lib.hid hM4.1
      have HI4 := Lib.hid (HI.out.only hM4.2.1)
      clear hM4 HC HI
      go_wp2_with (at_builtin
                   refine wpList_append_row rfl (.tmp 30) (.tmp 31) 30 30 33 rfl Tryd.underlying30 info33 (some ⟨w4.heap.size, 0, none⟩) 0 0 8 [] (nums S.list) (.slice (some ⟨gh, 0, none⟩) 8 c1) rfl rfl (Row.of_is (Is.new w4 33 []) rfl (Nat.zero_le _)) (list8 S) (Src.ofRow Tryd.underlying30 (HI4.out.1.alloc _) (nums_one _)) (by omega) (by omega) ?_
                   intro A5 c5 w5 hrow5 honly5 hlies5
                   rw [Nat.zero_add, List.nil_append] at hrow5)
      have ho5 : Only (fun _ => False) w4 w5 := ((Only.refl _ w4).alloc _).andThen honly5 (by rintro j ⟨ad, h1, rfl⟩; obtain rfl := Option.some.inj h1; exact .inr (Nat.le_refl _))
      obtain ⟨gv, rfl⟩ := hrow5.some (by decide)
      have hgv : w4.heap.size ≤ gv := by
        rcases hlies5 with h1 | h1
        · simp only [Option.some.injEq, Addr.mk.injEq, and_true] at h1
          omega
        · simp only [Option.some.injEq, Addr.mk.injEq, and_true] at h1
          simp at h1
          omega
      have hgh : gh < w4.heap.size := HI4.out.1.lies gh ⟨_, rfl, rfl⟩
      have hgv5 : w4.heap.size ≤ w5.heap.size := ho5.size
      have HI5 := Lib.hid (HI4.out.only ho5)
      have HW5 := Lib.hid (HW.out.stay ho5)
      have HV5 := Lib.hid hrow5
      clear honly5 hlies5 hrow5 ho5 HI4 HW
      go_loopg [7, 8] 64 (fun gkk v vi wx => ∃ (k c gv : Nat), v = .slice (some ⟨gv, 0, none⟩) 8 c ∧ vi = .int .i64 k ∧ k + gkk ≤ 64 ∧ 64 ≤ k + gkk ∧ w4.heap.size ≤ gv ∧ Row 33 wx (some ⟨gv, 0, none⟩) 8 c (nums (rounds ws S k).list) ∧ Only (fun _ => False) w5 wx)
      case atStart => exact ⟨0, c5, gv, rfl, rfl, by omega, by omega, hgv, HV5.out, Only.refl _ _⟩
      case round =>
        obtain ⟨k, c, gv, rfl, rfl, hk3, hk4, hgv, hR, hO⟩ := hrel
        clear HV5
        by_cases hkl : k < 64
        · have hnr : rounds ws S (k + 1) = round (rounds ws S k) (consts.getD k 0) (ws.getD k 0) := rfl
          have hok2 := rounds_ok ws hok k
          have dk := ((HI5.out.2.1.stay hO).at (nums_at consts k (by rw [consts_length]; omega))).1
          have dw := ((HW5.out.stay hO).at (nums_at ws k (by omega))).1
          obtain ⟨kk, hkk⟩ : ∃ x, consts.getD k 0 = x := ⟨_, rfl⟩
          obtain ⟨ww, hww⟩ : ∃ x, ws.getD k 0 = x := ⟨_, rfl⟩
          rw [hkk] at dk hnr
          rw [hww] at dw hnr
          obtain ⟨R, hRe⟩ : ∃ R, rounds ws S k = R := ⟨_, rfl⟩
          rw [hRe] at hok2 hnr hR
          obtain ⟨a, b, c', d, e, f, g, h⟩ := R
          obtain ⟨ha, hb, hc, hd, he, hf, hg, hh⟩ := hok2
          simp only at ha hb hc hd he hf hg hh
          have d0 := (hR.at (i := 0) (v := .int .u32 (a : Nat)) rfl).1
          have d1 := (hR.at (i := 1) (v := .int .u32 (b : Nat)) rfl).1
          have d2' := (hR.at (i := 2) (v := .int .u32 (c' : Nat)) rfl).1
          have d3 := (hR.at (i := 3) (v := .int .u32 (d : Nat)) rfl).1
          have d4 := (hR.at (i := 4) (v := .int .u32 (e : Nat)) rfl).1
          have d5 := (hR.at (i := 5) (v := .int .u32 (f : Nat)) rfl).1
          have d6 := (hR.at (i := 6) (v := .int .u32 (g : Nat)) rfl).1
          have d7 := (hR.at (i := 7) (v := .int .u32 (h : Nat)) rfl).1
          have i64 : (k : Int) < 64 := by omega
          have HNR := Lib.hid hnr
          have HO := Lib.hid hO
          have HR := Lib.hid hR
          have t1 := ref_temp a b c' d e f g h kk ww he hf hg
          have t2 := ref_temp2 a b c' d e f g h ha hb hc
          obtain ⟨T, hT⟩ : ∃ T, temp ⟨a, b, c', d, e, f, g, h⟩ kk ww = T := ⟨_, rfl⟩
          obtain ⟨U, hU⟩ : ∃ U, temp2 ⟨a, b, c', d, e, f, g, h⟩ = U := ⟨_, rfl⟩
          rw [hT] at t1
          rw [hU] at t2
          have H1 := Lib.hid t1
          have H2 := Lib.hid t2
          have HT := Lib.hid hT
          have HU := Lib.hid hU
          clear hnr hRe hkk hww hR hO t1 t2 hT hU
          go_wp2_with fail
          go_quiet (first | (go_at_call 14; exact rightq _ _ _ _ (by assumption) (by decide)))
          go_wp2_with fail
          rw [H1.out]
          have hRq := HR.out.drewN nq
          have hOq := HO.out.drewN nq
          obtain ⟨wq, hwq⟩ : ∃ wq, wr.drewN nq = wq := ⟨_, rfl⟩
          rw [hwq] at hRq hOq ⊢
          clear d0 d1 d2' d3 d4 d5 d6 d7 dk dw HR HO hwq H1
          have d0 := (hRq.at (i := 0) (v := .int .u32 (a : Nat)) rfl).1
          have d1 := (hRq.at (i := 1) (v := .int .u32 (b : Nat)) rfl).1
          have d2' := (hRq.at (i := 2) (v := .int .u32 (c' : Nat)) rfl).1
          have d3 := (hRq.at (i := 3) (v := .int .u32 (d : Nat)) rfl).1
          have d4 := (hRq.at (i := 4) (v := .int .u32 (e : Nat)) rfl).1
          have d5 := (hRq.at (i := 5) (v := .int .u32 (f : Nat)) rfl).1
          have d6 := (hRq.at (i := 6) (v := .int .u32 (g : Nat)) rfl).1
          have d7 := (hRq.at (i := 7) (v := .int .u32 (h : Nat)) rfl).1
          have HR := Lib.hid hRq
          have HO := Lib.hid hOq
          clear hRq hOq
          go_quiet (first | (go_at_call 14; exact rightq _ _ _ _ (by assumption) (by decide)))
          go_wp2_with fail
          rw [H2.out]
          have hRq := HR.out.drewN nq
          have hOq := HO.out.drewN nq
          obtain ⟨wz, hwz⟩ : ∃ wz, wq.drewN nq = wz := ⟨_, rfl⟩
          rw [hwz] at hRq hOq ⊢
          clear d0 d1 d2' d3 d4 d5 d6 d7 HR HO hwz H2
          have d0 := (hRq.at (i := 0) (v := .int .u32 (a : Nat)) rfl).1
          have d1 := (hRq.at (i := 1) (v := .int .u32 (b : Nat)) rfl).1
          have d2' := (hRq.at (i := 2) (v := .int .u32 (c' : Nat)) rfl).1
          have d3 := (hRq.at (i := 3) (v := .int .u32 (d : Nat)) rfl).1
          have d4 := (hRq.at (i := 4) (v := .int .u32 (e : Nat)) rfl).1
          have d5 := (hRq.at (i := 5) (v := .int .u32 (f : Nat)) rfl).1
          have d6 := (hRq.at (i := 6) (v := .int .u32 (g : Nat)) rfl).1
          have d7 := (hRq.at (i := 7) (v := .int .u32 (h : Nat)) rfl).1
          have HO := Lib.hid hOq
          clear hRq hOq
          have n1 : IntKind.u32.wrap ((T : Int) + (U : Int)) = (((round ⟨a, b, c', d, e, f, g, h⟩ kk ww).a : Nat) : Int) := by
            rw [IntKind.wrap_u32', ← HT.out, ← HU.out]
            simp [round]
          have n2 : IntKind.u32.wrap ((d : Int) + (T : Int)) = (((round ⟨a, b, c', d, e, f, g, h⟩ kk ww).e : Nat) : Int) := by
            rw [IntKind.wrap_u32', ← HT.out]
            simp [round]
          obtain ⟨X, hX⟩ : ∃ X, (round ⟨a, b, c', d, e, f, g, h⟩ kk ww).a = X := ⟨_, rfl⟩
          obtain ⟨Y, hY⟩ : ∃ Y, (round ⟨a, b, c', d, e, f, g, h⟩ kk ww).e = Y := ⟨_, rfl⟩
          rw [hX] at n1
          rw [hY] at n2
          have HX := Lib.hid hX
          have HY3 := Lib.hid hY
          clear hX hY
          go_still_tail 26, (by kernel_rfl)
          change wpList _ _ _ _ _ wz.drew
          go_wp2_with fail
          go_roundg (gk - 1)
          case measure => omega
          case rel =>
            refine ⟨k + 1, 8, wz.heap.size, rfl, by go_num, by omega, by omega, ?_, ?_, (HO.out.drew).alloc _⟩
            · have h1 := HO.out.size
              have h2 := HI5.out.1.lies gh ⟨_, rfl, rfl⟩
              have h3 := hgv5
              omega
            · rw [HNR.out]
              have e1 : nums (round ⟨a, b, c', d, e, f, g, h⟩ kk ww).list = [.int .u32 (X : Nat), .int .u32 (a : Nat), .int .u32 (b : Nat), .int .u32 (c' : Nat), .int .u32 (Y : Nat), .int .u32 (e : Nat), .int .u32 (f : Nat), .int .u32 (g : Nat)] := by
                rw [← HX.out, ← HY3.out]
                rfl
              rw [e1]
              exact Row.of_is (Is.new wz.drew 33 _) rfl (by unfold maxLen; omega)
        · obtain rfl : k = 64 := by omega
          obtain ⟨R, hRe⟩ : ∃ R, rounds ws S 64 = R := ⟨_, rfl⟩
          rw [hRe] at hR
          have hnx := HNX.out
          rw [hRe] at hnx
          clear HNX
          have HNX := Lib.hid hnx
          have HIw := Lib.hid (HI5.out.only hO)
          have HRw := Lib.hid hR
          have hvh : gv ≠ gh := by omega
          clear hR hO hRe hnx HI5 HW5 hk3 hk4 hkl
          go_wp2_with fail
          go_loopg [11] 8 (fun gkk vi wx => ∃ i : Nat, vi = .int .i64 i ∧ i + gkk ≤ 8 ∧ 8 ≤ i + gkk ∧ Row 33 wx (some ⟨gh, 0, none⟩) 8 c1 (nums (half S R i)) ∧ Row 33 wx (some ⟨gc, 0, none⟩) 64 c2 (nums consts) ∧ Only (fun _ => False) w wx ∧ Row 33 wx (some ⟨gv, 0, none⟩) 8 c (nums R.list))
          case atStart => exact ⟨0, rfl, by omega, by omega, HIw.out.1, HIw.out.2.1, HIw.out.2.2, HRw.out⟩
          case round =>
            obtain ⟨i, rfl, hi, hi2, hh, hc, hO, hv⟩ := hrel
            clear HIw HRw
            by_cases hil : i < 8
            · have f1 := hh.at (half_at S R i hil)
              have f2 := (hv.at (nums_at R.list i hil)).1
              have hset := half_set S R i hil
              obtain ⟨x, hx⟩ : ∃ x, S.list.getD i 0 = x := ⟨_, rfl⟩
              obtain ⟨z, hz⟩ : ∃ z, R.list.getD i 0 = z := ⟨_, rfl⟩
              rw [hx] at f1 hset
              rw [hz] at f2 hset
              obtain ⟨f1, f3⟩ := f1
              obtain ⟨q, hq⟩ : ∃ q, (x + z) % 4294967296 = q := ⟨_, rfl⟩
              have n1 : IntKind.u32.wrap ((x : Int) + (z : Int)) = (q : Int) := by rw [IntKind.wrap_u32', ← hq]; omega
              rw [hq] at hset
              have i8 : (i : Int) < 8 := by omega
              have HH := Lib.hid hh
              have HC := Lib.hid hc
              have HO := Lib.hid hO
              have HV := Lib.hid hv
              have HSET := Lib.hid hset
              clear hh hc hO hv hx hz hq hset
              go_wp2_with fail
              go_still_tail 11, (by kernel_rfl)
              change wpList _ _ _ _ _ wr.drew
              go_wp2_with fail
              go_roundg (gk - 1)
              case measure => omega
              case rel =>
                have hset1 : Only (fun j => j = gh) wr (wr.drew.setCell ⟨gh, i, none⟩ (.int .u32 (q : Nat))) := ((Only.refl (fun j => j = gh) wr).drew).set (p := ⟨gh, i, none⟩) (.inl rfl) _
                refine ⟨i + 1, by go_num, by omega, by omega, ?_, HC.out.only hset1 ?_, (HO.out.drew).set (p := ⟨gh, i, none⟩) (.inr hwh) _, HV.out.only hset1 ?_⟩
                · rw [← HSET.out]
                  exact HH.out.drew.set i _
                · rintro j ⟨ad, h1, rfl⟩ h2
                  obtain rfl := Option.some.inj h1
                  exact hne h2
                · rintro j ⟨ad, h1, rfl⟩ h2
                  obtain rfl := Option.some.inj h1
                  exact hvh h2
            · obtain rfl : i = 8 := by omega
              have HI6 : Hid (RS w gh c1 gc c2 (S.plus R) wr) := Lib.hid ⟨hh, hc, hO⟩
              clear hh hc hO hv
              go_wp2_with fail
              go_roundg (n - (j + 1))
              case measure => omega
              case rel =>
                have hy := HY.out
                have hy2 := HY2.out
                refine ⟨j + 1, y2, rfl, by omega, by omega, by omega, ?_⟩
                rw [HNX.out]
                exact HI6.out
    · obtain rfl : j = n := by omega
      obtain ⟨wb, rfl⟩ : ∃ wb, wb = wr := ⟨_, rfl⟩
      have hkey : keyOf l = blocks (pad l) first j := by rw [keyOf, HN.out]
      have hok := keyOf_ok l
      rw [← hkey] at hI
      obtain ⟨S, hS⟩ : ∃ S, keyOf l = S := ⟨_, rfl⟩
      rw [hS] at hI hok
      have HI := Lib.hid hI
      have HS := Lib.hid hS
      have e2 : (B.size : Int) ≤ (y : Int) := by omega
      have d3 : decide (y < B.size) = false := by simp; omega
      have d4 : decide ((y : Int) < (B.size : Int)) = false := by simp; omega
      clear hI hS hkey hBs hy
      go_wp2_with fail
      clear e2 d3 d4
      go_loopg [12, 13] 8 (fun gkk v vi wx => ∃ (k m : Nat) (A : Option Addr) (c : Nat), vi = .int .i64 k ∧ v = .slice A m c ∧ m = 4 * k ∧ k + gkk ≤ 8 ∧ 8 ≤ k + gkk ∧ Made 5 wb A m c (bcells (told (S.list.take k))) wx)
      case atStart => exact ⟨0, 0, none, 0, rfl, rfl, rfl, by omega, by omega, Row.nil 5 wb, Only.refl _ wb, by rintro j ⟨ad, e, _⟩; cases e⟩
      case round =>
        obtain ⟨k, m, A, c, rfl, rfl, hm, hk, hk2, hM⟩ := hrel
        have HM := Lib.hid hM
        have HMM := Lib.hid hm
        clear hM hm
        by_cases hkl : k < 8
        · have hx := list_lt S hok k
          have hmore := told_more S.list k hkl
          have hrow := HI.out.1.stay HM.out.2.1
          have f1 := (hrow.at (nums_at S.list k hkl)).1
          have hat : ∀ W : World, Row 33 W (some ⟨gh, 0, none⟩) 8 c1 (nums S.list) → W.cell? ⟨gh, k, none⟩ = some (.int .u32 (S.list.getD k 0 : Nat)) := fun W h => (h.at (nums_at S.list k hkl)).1
          obtain ⟨x, hxe⟩ : ∃ x, S.list.getD k 0 = x := ⟨_, rfl⟩
          rw [hxe] at hx hmore f1 hat
          have HMORE := Lib.hid hmore
          have HAT := Lib.hid hat
          have HROW := Lib.hid hrow
          clear hxe hmore hat hrow
          have hml : m ≤ 32 := by have := HMM.out; omega
          have i8 : (k : Int) < 8 := by omega
          have u0 : IntKind.u8.wrap ((x : Int) / 16777216) = (x : Int) / 16777216 := by rw [IntKind.wrap_u8']; omega
          have u1 : IntKind.u8.wrap ((x : Int) / 65536) = (x : Int) / 65536 % 256 := by rw [IntKind.wrap_u8']
          have u2 : IntKind.u8.wrap ((x : Int) / 256) = (x : Int) / 256 % 256 := by rw [IntKind.wrap_u8']
          have u3 : IntKind.u8.wrap (x : Int) = (x : Int) % 256 := by rw [IntKind.wrap_u8']
          have hgb : gh < wb.heap.size := HI.out.1.lies gh ⟨_, rfl, rfl⟩
          go_wp2_with fail
          go_region_held3 (fun W => W.cell? ⟨gh, k, none⟩ = some (.int .u32 (x : Nat)))
            (first | assumption | exact HAT.out _ (Row.heap HROW.out rfl) | exact HAT.out _ (Row.heap (HROW.out.alloc (.cells (fourV x).toArray 5)) rfl))
            (first
              | (refine step_append_row (by rfl) (.tmp 167) (.tmp 191) 28 28 5 (by rfl) Tryd.underlying28 info5 A m c 4 _ (fourV x) (.slice (some ⟨wr.heap.size, 0, none⟩) 4 4) (by rfl) (by rfl) (Row.heap (HM.out.1.alloc (.cells (fourV x).toArray 5)) rfl) rfl (Src.heap Tryd.underlying28 wr _ (fourV x) 4 4 5 rfl rfl (fourV_one x)) (by omega) (by omega) ?_
                 intro A2 c2' w3' hrow honly hlies
                 have ho' : Only (Lies A) (wr.alloc (.cells (fourV x).toArray 5)) w3' := ⟨honly.os, honly.tape, honly.output, honly.size, honly.block⟩
                 have hs3 := HAT.out w3' ((HROW.out.alloc (.cells (fourV x).toArray 5)).only ho' (by rintro j ⟨ad, h1, rfl⟩ h2; obtain rfl := Option.some.inj h1; have := HM.out.2.2 _ h2; simp at this; omega))
                 have HM2 := Lib.hid (HM.out.append hrow ho' hlies)
                 clear hrow honly hlies ho'))
          go_wp2_with fail
          go_roundg (gk - 1)
          case measure => omega
          case rel =>
            refine ⟨k + 1, m + 4, A2, c2', by go_num, rfl, by have := HMM.out; omega, by omega, by omega, ?_⟩
            rw [HMORE.out, bcells_append, four_cells x hx]
            exact HM2.out
        · obtain rfl : k = 8 := by omega
          have hall : S.list.take 8 = S.list := rfl
          rw [hall] at HM
          have hcv := HM.out.1.text (P := Tryd.prog) Tryd.underlying28 Tryd.underlying5 Tryd.underlying9 (by have := HMM.out; omega)
          go_wp2
          go_ret
          exact ⟨by rw [sha, HS.out]; rfl, HI.out.2.2.trans HM.out.2.1⟩
end Go.Proofs.YtohocbfmjcfdgaaDoor
