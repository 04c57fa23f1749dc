/- Layer 9, the program: the longest match at a place, by what is tried. -/
import Derived.Test.YtgkplmjbjbikmaaView
namespace Go.Proofs.Ytgkplmjbjbikmaa
open Go.RowKit

theorem byte_at (s : ByteArray) (i : Nat) (h : i < s.size) : s[i]'h = s.data.toList.getD i 0 := by
  have h2 : i < s.data.toList.length := by simpa using h
  rw [List.getD_eq_getElem?_getD, List.getElem?_eq_getElem h2]
  rfl
theorem text_len (s : ByteArray) : s.data.toList.length = s.size := rfl
/-- The cells of a pick. -/
def pk (s : ByteArray) (a most l b : Nat) : List Value := [.string s, .int .i64 a, .int .i64 most, .int .i64 l, .int .i64 b]

theorem newPick (s : ByteArray) (a : Nat) (w : World) (hs : s.size ≤ 1073741824) (ha : a ≤ s.size) :
    Calls Try.prog 12 #[.string s, .int .i64 a] w fun e w' => e = .returned (.pointer (some ⟨w.heap.size, 0, none⟩)) ∧ Is w' w.heap.size 40 (pk s a (mostAt s.data.toList a) 0 0) ∧ Only (fun _ => False) w w' := by
  have b1 : (s.size : Int) ≤ 1073741824 := by omega
  have b2 : (a : Int) ≤ s.size := by omega
  have e2 : s.data.toList.length = s.size := rfl
  by_cases hm : (s.size : Int) - (a : Int) ≤ 258
  · have e3 : (s.size : Int) - (a : Int) = (mostAt s.data.toList a : Int) := by unfold mostAt; omega
    go_enter Try.func12, Try.ntmps12
    go_wp2
    go_ret
    exact ⟨rfl, Is.new w 40 (pk s a (mostAt s.data.toList a) 0 0), (Only.refl _ w).alloc _⟩
  · have e3 : (258 : Int) = (mostAt s.data.toList a : Int) := by unfold mostAt; omega
    go_enter Try.func12, Try.ntmps12
    go_wp2
    go_ret
    exact ⟨rfl, Is.new w 40 (pk s a (mostAt s.data.toList a) 0 0), (Only.refl _ w).alloc _⟩

theorem full (p : Nat) (s : ByteArray) (a most l b : Nat) (B : Bool) (w : World) (h : Is w p 40 (pk s a most l b)) (hB : ((l : Int) == (most : Int)) = B) :
    Calls Try.prog 13 #[.pointer (some ⟨p, 0, none⟩)] w fun e w' => e = .returned (.bool B) ∧ Only (fun _ => False) w w' := by
  have c2 := h.cell 2 rfl
  have c3 := h.cell 3 rfl
  have HB := Lib.hid hB
  clear h hB
  go_enter Try.func13, Try.ntmps13
  go_wp2_with fail
  go_quiet (fail)
  go_wp2
  go_ret
  rw [← HB.out]
  exact ⟨rfl, (Only.refl _ w).drewN _⟩

theorem only2 {w w2 : World} (h : Only (fun _ => False) w w2) (p i j : Nat) (u v : Value) : Only (fun x => x = p) w ((w2.setCell ⟨p, i, none⟩ u).setCell ⟨p, j, none⟩ v) :=
  Only.set (S := fun x => x = p) (Only.set (S := fun x => x = p) (h.mono fun _ f => f.elim) (p := ⟨p, i, none⟩) (.inl rfl) u) (p := ⟨p, j, none⟩) (.inl rfl) v

/-- The result of trying. -/
def TriedPost (w : World) (p : Nat) (s : ByteArray) (a most : Nat) (q : Nat × Nat) (e : Ending) (w' : World) : Prop := e = .returned (.tuple #[]) ∧ Is w' p 40 (pk s a most q.1 q.2) ∧ Only (· = p) w w'

set_option maxHeartbeats 4000000 in
theorem tried (p : Nat) (s : ByteArray) (a most l b d : Nat) (w : World) (h : Is w p 40 (pk s a most l b)) (hs : s.size ≤ 1073741824) (ha : a + most ≤ s.size) (h1 : 1 ≤ d) (hd : d ≤ a) (hm : most ≤ 258) (hl : l ≤ most) :
    Calls Try.prog 14 #[.pointer (some ⟨p, 0, none⟩), .int .i64 d] w (TriedPost w p s a most (pstep s.data.toList a most (l, b) d)) := by
  have HI := Lib.hid h
  have b1 : (s.size : Int) ≤ 1073741824 := by omega
  have c1 := h.cell 1 rfl
  obtain ⟨f, hf⟩ : ∃ f, f + d = a := ⟨a - d, by omega⟩
  have ef : (a : Int) - (d : Int) = (f : Int) := by omega
  clear h
  go_enter Try.func14, Try.ntmps14
  go_wp2_with fail
  clear c1
  go_loopg [5] most (fun gk i wx => ∃ k : Nat, i = .int .i64 k ∧ k + gk ≤ most ∧ most ≤ k + gk ∧ Hid (Only (fun _ => False) w wx) ∧ Hid (runN s.data.toList a f k = k))
  case atStart => exact ⟨0, rfl, by omega, by omega, Lib.hid (Only.refl _ w), Lib.hid rfl⟩
  case round =>
    obtain ⟨k, rfl, hk1, hk2, HO, HR⟩ := hrel
    have HI2 := Lib.hid (HI.out.only HO.out fun f => f)
    have c0 := HI2.out.cell 0 rfl
    have c1 := HI2.out.cell 1 rfl
    have c2 := HI2.out.cell 2 rfl
    by_cases hlt : k < most
    · obtain ⟨F, hF⟩ : ∃ F, f + k = F := ⟨_, rfl⟩
      obtain ⟨G, hG⟩ : ∃ G, a + k = G := ⟨_, rfl⟩
      have bF : (F : Int) < (s.size : Int) := by omega
      have bG : (G : Int) < (s.size : Int) := by omega
      have wF : IntKind.i64.wrap ((f : Int) + (k : Int)) = (F : Int) := by rw [IntWalk.i64_in _ (by omega)]; omega
      have wG : IntKind.i64.wrap ((a : Int) + (k : Int)) = (G : Int) := by rw [IntWalk.i64_in _ (by omega)]; omega
      obtain ⟨x, hx⟩ : ∃ x, s[F]'(by omega) = x := ⟨_, rfl⟩
      obtain ⟨y, hy⟩ : ∃ y, s[G]'(by omega) = y := ⟨_, rfl⟩
      have ex : s.data.toList.getD (f + k) 0 = x := by rw [← hx, byte_at, hF]
      have ey : s.data.toList.getD (a + k) 0 = y := by rw [← hy, byte_at, hG]
      have d1 : decide ((k : Int) < (most : Int)) = true := by simp; omega
      by_cases hxy : x = y
      · subst hxy
        have HR2 : Hid (runN s.data.toList a f (k + 1) = k + 1) := Lib.hid (runN_on HR.out (by rw [ex, ey]))
        clear ex ey HR
        go_upto_region 1 with fail
        go_quiet (fail)
        go_wp2
        go_roundg (gk - 1)
        case measure => omega
        case rel => exact ⟨k + 1, by go_num, by omega, by omega, Lib.hid (HO.out.drewN _), HR2⟩
      · have hne : ¬ ((x.toNat : Int) = (y.toNat : Int)) := fun e => hxy (UInt8.toNat_inj.1 (by omega))
        have hne2 : ((x.toNat : Int) == (y.toNat : Int)) = false := by simpa using hne
        have HR2 : Hid (runN s.data.toList a (a - d) most = k) := Lib.hid (by
          have := runN_stop HR.out (by rw [ex, ey]; exact hxy) (most - (k + 1))
          rw [show k + 1 + (most - (k + 1)) = most from by omega] at this
          rw [show a - d = f from by omega]
          exact this)
        clear ex ey HR
        go_upto_region 1 with fail
        go_quiet (fail)
        have HI3 : Hid (Is (wr.drewN nq) p 40 (pk s a most l b)) := Lib.hid HI2.out
        have HO3 : Hid (Only (fun _ => False) w (wr.drewN nq)) := Lib.hid (HO.out.drewN _)
        obtain ⟨w2, hw2⟩ : ∃ w2, wr.drewN nq = w2 := ⟨_, rfl⟩
        rw [hw2] at HI3 HO3 ⊢
        clear hw2 HI2 HO HI c0 c1 c2
        have c3 := HI3.out.cell 3 rfl
        have c4 := HI3.out.cell 4 rfl
        have f3 := HI3.out.frozen 3
        have f4 := HI3.out.frozen 4
        by_cases h3 : 3 ≤ k
        · by_cases h4 : l < k
          · have HP : Hid (pstep s.data.toList a most (l, b) d = (k, d)) := Lib.hid (by unfold pstep; rw [HR2.out, if_pos ⟨h3, h4⟩])
            have g3 : (3 : Int) ≤ (k : Int) := by omega
            have g4 : (l : Int) < (k : Int) := by omega
            clear hne hne2 hx hy
            go_wp2
            go_end0
            rw [HP.out]
            exact ⟨rfl, (HI3.out.set 3 _).set 4 _, only2 HO3.out p 3 4 _ _⟩
          · have HP : Hid (pstep s.data.toList a most (l, b) d = (l, b)) := Lib.hid (by unfold pstep; rw [HR2.out, if_neg (fun x => h4 x.2)])
            have g3 : (3 : Int) ≤ (k : Int) := by omega
            have g4 : ¬ (l : Int) < (k : Int) := by omega
            clear hne hne2 hx hy
            go_wp2
            go_end0
            rw [HP.out]
            exact ⟨rfl, HI3.out, HO3.out.mono fun _ f => f.elim⟩
        · have HP : Hid (pstep s.data.toList a most (l, b) d = (l, b)) := Lib.hid (by unfold pstep; rw [HR2.out, if_neg (fun x => h3 x.1)])
          have g3 : ¬ (3 : Int) ≤ (k : Int) := by omega
          clear hne hne2 hx hy
          go_wp2
          go_end0
          rw [HP.out]
          exact ⟨rfl, HI3.out, HO3.out.mono fun _ f => f.elim⟩
    · obtain rfl : k = most := by omega
      have d1 : decide ((k : Int) < (k : Int)) = false := by simp
      have HR2 : Hid (runN s.data.toList a (a - d) k = k) := Lib.hid (by
          rw [show a - d = f from by omega]
          exact HR.out)
      go_upto_region 1 with fail
      go_quiet (fail)
      have HI3 : Hid (Is (wr.drewN nq) p 40 (pk s a k l b)) := Lib.hid HI2.out
      have HO3 : Hid (Only (fun _ => False) w (wr.drewN nq)) := Lib.hid (HO.out.drewN _)
      obtain ⟨w2, hw2⟩ : ∃ w2, wr.drewN nq = w2 := ⟨_, rfl⟩
      rw [hw2] at HI3 HO3 ⊢
      clear hw2 HI2 HO HI c0 c1 c2
      have c3 := HI3.out.cell 3 rfl
      have c4 := HI3.out.cell 4 rfl
      have f3 := HI3.out.frozen 3
      have f4 := HI3.out.frozen 4
      by_cases h3 : 3 ≤ k
      · by_cases h4 : l < k
        · have HP : Hid (pstep s.data.toList a k (l, b) d = (k, d)) := Lib.hid (by unfold pstep; rw [HR2.out, if_pos ⟨h3, h4⟩])
          have g3 : (3 : Int) ≤ (k : Int) := by omega
          have g4 : (l : Int) < (k : Int) := by omega
          go_wp2
          go_end0
          rw [HP.out]
          exact ⟨rfl, (HI3.out.set 3 _).set 4 _, only2 HO3.out p 3 4 _ _⟩
        · have HP : Hid (pstep s.data.toList a k (l, b) d = (l, b)) := Lib.hid (by unfold pstep; rw [HR2.out, if_neg (fun x => h4 x.2)])
          have g3 : (3 : Int) ≤ (k : Int) := by omega
          have g4 : ¬ (l : Int) < (k : Int) := by omega
          go_wp2
          go_end0
          rw [HP.out]
          exact ⟨rfl, HI3.out, HO3.out.mono fun _ f => f.elim⟩
      · have HP : Hid (pstep s.data.toList a k (l, b) d = (l, b)) := Lib.hid (by unfold pstep; rw [HR2.out, if_neg (fun x => h3 x.1)])
        have g3 : ¬ (3 : Int) ≤ (k : Int) := by omega
        go_wp2
        go_end0
        rw [HP.out]
        exact ⟨rfl, HI3.out, HO3.out.mono fun _ f => f.elim⟩

end Go.Proofs.Ytgkplmjbjbikmaa
