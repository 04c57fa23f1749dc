/- Layers 1, 5 and 8, the document: small things; what is put; the bits of a code. -/
import Derived.Test.YtaicihghndoclaaGreatDRead
import Derived.Test.YtaicihghndoclaaGreatM10
import Derived.Test.YtaicihghndoclaaGreatIA
import Derived.Test.YtaicihghndoclaaGreatM7
/- Layer 8, the document: rows of one number, the lengths of kind 1, how many bits a symbol has. -/
namespace Go.Proofs.YtaicihghndoclaaGreat
open Go.RowKit

def SamePost (w : World) (A : Option Addr) (m : Nat) (o : List Nat) (e : Ending) (w' : World) : Prop := ∃ A' c', e = .returned (.slice A' m c') ∧ Row 3 w' A' m c' (ints o) ∧ Only (Lies A) w w' ∧ ∀ j, Lies A' j → Lies A j ∨ w.heap.size ≤ j
/-- Where it stands. -/
structure SmAt (w : World) (A A' : Option Addr) (z c : Nat) (o : List Nat) (wx : World) : Prop where
  row : Row 3 wx A' z c (ints o)
  only : Only (Lies A) w wx
  lies : ∀ j, Lies A' j → Lies A j ∨ w.heap.size ≤ j
theorem SmAt.more {w wx wy : World} {A A' A2 : Option Addr} {z c c2 m : Nat} {o r : List Nat} {b : Obj} (h : SmAt w A A' z c o wx) (hr : Row 3 wy A2 (z + m) c2 (ints o ++ ints r)) (ho : Only (Lies A') (wx.alloc b) wy) (ha : A2 = A' ∨ A2 = some ⟨(wx.alloc b).heap.size, 0, none⟩) : SmAt w A A2 (z + m) c2 (o ++ r) wy := by
  have hsz := h.only.size
  refine ⟨by rw [ints_append]; exact hr, (h.only.alloc b).andThen ho h.lies, fun j hj => ?_⟩
  rcases ha with e | e
  · exact h.lies j (e ▸ hj)
  · obtain ⟨ad, e1, e2⟩ := hj
    rw [e] at e1
    obtain rfl := Option.some.inj e1
    have e3 : (wx.alloc b).heap.size = j := e2
    simp at e3
    exact .inr (by omega)

set_option maxRecDepth 20000 in
set_option maxHeartbeats 2000000 in
theorem dsame (A : Option Addr) (z c n k : Nat) (o : List Nat) (w : World) (h : Row 3 w A z c (ints o)) (hz : z ≤ 1000) (hn : n ≤ 1000) : Calls Tryz.prog 41 #[.slice A z c, .int .i64 n, .int .i64 k] w (SamePost w A (z + n) (o ++ List.replicate n k)) := by
  have H0 : Hid (SmAt w A A (z + 0) c (o ++ List.replicate 0 k) w) := Lib.hid ⟨by simpa using h, Only.refl _ _, fun j hj => .inl hj⟩
  clear h
  go_enter Tryz.func41, Tryz.ntmps41
  go_wp2_with fail
  go_loopg [0, 7] n (fun gk v i wx => ∃ (j : Nat) (A' : Option Addr) (c' : Nat), i = .int .i64 j ∧ v = .slice A' (z + j) c' ∧ j + gk ≤ n ∧ n ≤ j + gk ∧ Hid (SmAt w A A' (z + j) c' (o ++ List.replicate j k) wx))
  case atStart => exact ⟨0, A, c, rfl, rfl, by omega, by omega, H0⟩
  case round =>
    clear H0
    obtain ⟨j, A', c', rfl, rfl, hj, hj2, HS⟩ := hrel
    by_cases hlt : j < n
    · obtain ⟨Z, hZ⟩ : ∃ Z, z + j = Z := ⟨_, rfl⟩
      have hZ2 : Z ≤ 2000 := by omega
      rw [hZ] at HS ⊢
      have HSR := Lib.hid (Src.oneInt Tryz.underlying26 wr .i64 k 1 3)
      have HRW := Lib.hid (HS.out.row.alloc (.cells #[.int .i64 (k : Nat)] 3))
      have HM : Hid (∀ A9 c9 w9, Row 3 w9 A9 (Z + 1) c9 (ints (o ++ List.replicate j k) ++ ints [k]) → Only (Lies A') (wr.alloc (.cells #[.int .i64 (k : Nat)] 3)) w9 → (A9 = A' ∨ A9 = some ⟨(wr.alloc (.cells #[.int .i64 (k : Nat)] 3)).heap.size, 0, none⟩) → SmAt w A A9 (Z + 1) c9 (o ++ List.replicate (j + 1) k) w9) := Lib.hid fun A9 c9 w9 r1 r2 r3 => by
        have := HS.out.more r1 r2 r3
        rw [List.append_assoc] at this
        rw [List.replicate_succ']
        exact this
      obtain ⟨wy, hwy⟩ : ∃ wy, wr.alloc (.cells #[.int .i64 (k : Nat)] 3) = wy := ⟨_, rfl⟩
      rw [hwy] at HSR HRW HM
      clear HS
      go_upto_region 4 with fail
      go_wp2_with (at_builtin
                   refine wpList_append_row rfl (.tmp 13) (.tmp 15) 26 26 3 rfl Tryz.underlying26 info3 A' Z c' 1 (ints (o ++ List.replicate j k)) (ints [k]) (.slice (some ⟨wr.heap.size, 0, none⟩) 1 1) (by rfl) (by rfl) HRW.out rfl HSR.out (by omega) (by omega) ?_
                   intro A9 c9 w9 hrow9 honly9 hlies9
                   have H9 := Lib.hid (HM.out A9 c9 w9 hrow9 honly9 hlies9)
                   clear hrow9 honly9 hlies9)
      go_roundg (gk - 1)
      case measure => omega
      case rel => exact ⟨j + 1, A9, c9, by go_num, by rw [← Nat.add_assoc, hZ], by omega, by omega, by rw [← Nat.add_assoc, hZ]; exact H9⟩
    · obtain rfl : j = n := by omega
      obtain ⟨Z, hZ⟩ : ∃ Z, z + j = Z := ⟨_, rfl⟩
      have HP : Hid (SamePost w A (z + j) (o ++ List.replicate j k) (.returned (.slice A' Z c')) wr) := Lib.hid ⟨A', c', by rw [hZ], HS.out.row, HS.out.only, HS.out.lies⟩
      rw [hZ]
      clear HS hZ
      go_wp2
      go_ret
      exact HP.out

def FixedPost (w : World) (e : Ending) (w' : World) : Prop := ∃ A1 c1 A2 c2, e = .returned (.tuple #[.slice A1 288 c1, .slice A2 32 c2]) ∧ See w' w'.heap.size A1 (ints fixA) ∧ See w' w'.heap.size A2 (ints fixB) ∧ Only (fun _ => False) w w' ∧ (∀ j, Lies A1 j → w.heap.size ≤ j) ∧ ∀ j, Lies A2 j → w.heap.size ≤ j

theorem fixA_parts : ((([] ++ List.replicate 144 8) ++ List.replicate 112 9) ++ List.replicate 24 7) ++ List.replicate 8 8 = fixA := by unfold fixA; rw [List.nil_append]
set_option maxRecDepth 20000 in
set_option maxHeartbeats 2000000 in
theorem dfixed (w : World) : Calls Tryz.prog 27 #[] w (FixedPost w) := by
  have hno : ∀ j, ¬ Lies none j := by rintro j ⟨ad, e, _⟩; cases e
  have HS : Hid (∀ (A : Option Addr) (z c n k : Nat) (o : List Nat) (w : World), Row 3 w A z c (ints o) → z ≤ 1000 → n ≤ 1000 → Calls Tryz.prog 41 #[.slice A z c, .int .i64 n, .int .i64 k] w (SamePost w A (z + n) (o ++ List.replicate n k))) := Lib.hid dsame
  have H1 := Lib.hid (HS.out none 0 0 144 8 [] w (Row.nil 3 w) (by decide) (by decide))
  go_enter Tryz.func27, Tryz.ntmps27
  go_wp2_with fail
  refine H1.out.mono ?_
  rintro e w1 ⟨A1, c1, rfl, r1, o1, l1⟩
  have o1' : Only (fun _ => False) w w1 := o1.mono fun j hj => hno j hj
  have l1' : ∀ j, Lies A1 j → w.heap.size ≤ j := fun j hj => (l1 j hj).elim (fun x => (hno j x).elim) id
  have H2 := Lib.hid (HS.out A1 144 c1 112 9 _ w1 r1 (by decide) (by decide))
  have HO1 := Lib.hid o1'
  have HL1 := Lib.hid l1'
  clear r1 o1 l1 o1' l1' H1
  go_wp2_with fail
  refine H2.out.mono ?_
  rintro e w2 ⟨A2, c2, rfl, r2, o2, l2⟩
  have HO2 : Hid (Only (fun _ => False) w w2) := Lib.hid (HO1.out.andThen o2 fun j hj => .inr (HL1.out j hj))
  have HL2 : Hid (∀ j, Lies A2 j → w.heap.size ≤ j) := Lib.hid fun j hj => (l2 j hj).elim (HL1.out j) fun x => Nat.le_trans HO1.out.size x
  have H3 := Lib.hid (HS.out A2 256 c2 24 7 _ w2 r2 (by decide) (by decide))
  clear r2 o2 l2 H2 HO1 HL1
  go_wp2_with fail
  refine H3.out.mono ?_
  rintro e w3 ⟨A3, c3, rfl, r3, o3, l3⟩
  have HO3 : Hid (Only (fun _ => False) w w3) := Lib.hid (HO2.out.andThen o3 fun j hj => .inr (HL2.out j hj))
  have HL3 : Hid (∀ j, Lies A3 j → w.heap.size ≤ j) := Lib.hid fun j hj => (l3 j hj).elim (HL2.out j) fun x => Nat.le_trans HO2.out.size x
  have H4 := Lib.hid (HS.out A3 280 c3 8 8 _ w3 r3 (by decide) (by decide))
  clear r3 o3 l3 H3 HO2 HL2
  go_wp2_with fail
  refine H4.out.mono ?_
  rintro e w4 ⟨A4, c4, rfl, r4, o4, l4⟩
  have HO4 : Hid (Only (fun _ => False) w w4) := Lib.hid (HO3.out.andThen o4 fun j hj => .inr (HL3.out j hj))
  have HL4 : Hid (∀ j, Lies A4 j → w.heap.size ≤ j) := Lib.hid fun j hj => (l4 j hj).elim (HL3.out j) fun x => Nat.le_trans HO3.out.size x
  rw [fixA_parts] at r4
  have HS4 := Lib.hid r4.see
  have H5 := Lib.hid (HS.out none 0 0 32 5 [] w4 (Row.nil 3 w4) (by decide) (by decide))
  clear r4 o4 l4 H4 HO3 HL3
  go_wp2_with fail
  refine H5.out.mono ?_
  rintro e w5 ⟨A5, c5, rfl, r5, o5, l5⟩
  have o5' : Only (fun _ => False) w4 w5 := o5.mono fun j hj => hno j hj
  have HP : Hid (FixedPost w (.returned (.tuple #[.slice A4 288 c4, .slice A5 32 c5])) w5) := Lib.hid ⟨A4, c4, A5, c5, rfl, (HS4.out.new o5').more o5'.size, r5.see, HO4.out.trans o5', HL4.out, fun j hj => (l5 j hj).elim (fun x => (hno j x).elim) fun x => Nat.le_trans HO4.out.size x⟩
  clear r5 o5 l5 o5' H5 HS hno
  go_wp2
  go_ret2
  exact HP.out

def BitPost (w : World) (b : Nat) (e : Ending) (w' : World) : Prop := e = .returned (.int .i64 (b : Nat)) ∧ Only (fun _ => False) w w'
set_option maxRecDepth 20000 in
set_option maxHeartbeats 2000000 in
theorem rbitsOf (A : Option Addr) (n c B : Nat) (R : List Sy) (w : World) (i0 : Nat) (r : Sy) (h : See w B A (sys R)) (hn : R.length = n) (h30 : n ≤ 30) (hi : R[i0]? = some r) (hne : ∀ (j : Nat) (q : Sy), j < i0 → R[j]? = some q → q.s ≠ r.s) :
    Calls Tryz.prog 95 #[.slice A n c, .int .i64 (r.s : Nat)] w fun e w' => e = .returned (.int .i64 (r.b : Nat)) ∧ w' = w := by
  obtain ⟨rs, rf, rb⟩ := r
  simp only at hne ⊢
  have hi0 : i0 < n := by
    rcases Nat.lt_or_ge i0 n with h1 | h1
    · exact h1
    · rw [List.getElem?_eq_none (by omega)] at hi; cases hi
  have HS := Lib.hid h
  have HN := Lib.hid hn
  have HI := Lib.hid hi
  have HE := Lib.hid hne
  clear h hn hi hne
  go_enter Tryz.func95, Tryz.ntmps95
  go_wp2_with fail
  go_loopg [5] n (fun gk i wx => ∃ (j : Nat), i = .int .i64 j ∧ j + gk ≤ n ∧ n ≤ j + gk ∧ j ≤ i0 ∧ wx = w)
  case atStart => exact ⟨0, rfl, by omega, by omega, by omega, rfl⟩
  case round =>
    obtain ⟨j, rfl, hg1, hg2, hj, rfl⟩ := hrel
    obtain ⟨q, hq⟩ := at_some R j n HN.out (by omega)
    obtain ⟨b0, off, rfl, _, c0, c1, c2⟩ := HS.out.sym j q hq
    by_cases hlt : j < i0
    · have hne := HE.out j q hlt hq
      obtain ⟨qs, qf, qb⟩ := q
      simp only at c0 c1 c2 hne
      clear hq
      have hne2 : ((qs : Int) == (rs : Int)) = false := by simp; omega
      have hne3 : ¬ (qs : Int) = (rs : Int) := by omega
      go_wp2_with fail
      go_roundg (gk - 1)
      case measure => omega
      case rel => exact ⟨j + 1, by go_num, by omega, by omega, by omega, rfl⟩
    · obtain rfl : j = i0 := by omega
      obtain rfl := Option.some.inj (HI.out.symm.trans hq)
      simp only at c0 c1 c2
      clear hq
      go_wp2
      go_ret
      exact ⟨rfl, rfl⟩

set_option maxRecDepth 20000 in
theorem dlengthBits (y : Nat) (w : World) (h1 : 257 ≤ y) (h2 : y ≤ 285) : Calls Tryz.prog 65 #[.int .i64 y] w (BitPost w (lw y)) := by
  have HB : Hid (∀ (A : Option Addr) (k B : Nat) (w : World), See w B A (sys lrows) → Calls Tryz.prog 95 #[.slice A 29 k, .int .i64 y] w fun e w' => e = .returned (.int .i64 (lw y : Nat)) ∧ w' = w) := Lib.hid fun A k B w hs => by
    by_cases h285 : y = 285
    · subst h285
      exact rbitsOf A 29 k B lrows w 28 ⟨285, 258, 0⟩ hs lrows_length (by decide) lrows_last fun j q hj hq => by
        rcases lrows_any j q hq with ⟨h3, rfl⟩ | ⟨h3, _⟩
        · show 257 + j ≠ 285
          omega
        · omega
    · obtain ⟨t, rfl⟩ : ∃ t, y = 257 + t := ⟨y - 257, by omega⟩
      have e : lw (257 + t) = lb t := by unfold lw; rw [if_neg h285, Nat.add_sub_cancel_left]
      rw [e]
      exact rbitsOf A 29 k B lrows w t (lrow t) hs lrows_length (by decide) (lrows_at t (by omega)) fun j q hj hq => by
        rcases lrows_any j q hq with ⟨h3, rfl⟩ | ⟨h3, _⟩
        · show 257 + j ≠ 257 + t
          omega
        · omega
  obtain ⟨v, hv⟩ : ∃ v, lw y = v := ⟨_, rfl⟩
  rw [hv] at HB ⊢
  clear hv h1 h2
  go_enter Tryz.func65, Tryz.ntmps65
  go_wp2_with (first
      | (go_at_call 96; refine (rlengths _).mono ?_; rintro e w2 ⟨A, k, rfl, hm⟩; have HM := Lib.hid hm; clear hm)
      | (go_at_call 95; refine (HB.out A k _ w2 HM.out.1.see).mono ?_; rintro e w3 ⟨rfl, rfl⟩))
  go_ret
  exact ⟨rfl, HM.out.2.1⟩
set_option maxRecDepth 20000 in
theorem ddistBits (y : Nat) (w : World) (h2 : y < 30) : Calls Tryz.prog 67 #[.int .i64 y] w (BitPost w (db y)) := by
  have HB : Hid (∀ (A : Option Addr) (k B : Nat) (w : World), See w B A (sys drows) → Calls Tryz.prog 95 #[.slice A 30 k, .int .i64 y] w fun e w' => e = .returned (.int .i64 (db y : Nat)) ∧ w' = w) := Lib.hid fun A k B w hs =>
    rbitsOf A 30 k B drows w y (drow y) hs drows_length (by decide) (drows_at y h2) fun j q hj hq => by
      obtain ⟨h3, rfl⟩ := drows_any j q hq
      show j ≠ y
      omega
  obtain ⟨v, hv⟩ : ∃ v, db y = v := ⟨_, rfl⟩
  rw [hv] at HB ⊢
  clear hv h2
  go_enter Tryz.func67, Tryz.ntmps67
  go_wp2_with (first
      | (go_at_call 98; refine (rdistances _).mono ?_; rintro e w2 ⟨A, k, rfl, hm⟩; have HM := Lib.hid hm; clear hm)
      | (go_at_call 95; refine (HB.out A k _ w2 HM.out.1.see).mono ?_; rintro e w3 ⟨rfl, rfl⟩))
  go_ret
  exact ⟨rfl, HM.out.2.1⟩
end Go.Proofs.YtaicihghndoclaaGreat

/- Layer 1, the document: a writer of bits, and what is put. -/
namespace Go.Proofs.YtaicihghndoclaaGreat
open Go.RowKit

end Go.Proofs.YtaicihghndoclaaGreat

/- Layer 5: the document's bits of a code. -/
namespace Go.Proofs.YtaicihghndoclaaGreat
open Go.RowKit

/-- The bits from place j on, the highest first; ahead of them zeros. -/
def hbTo (x v j : Nat) : List UInt8 := (List.range x).map fun p => if j ≤ p then UInt8.ofNat (v / 2 ^ (x - 1 - p) % 2) else 0
theorem hbTo_length (x v j : Nat) : (hbTo x v j).length = x := by simp [hbTo]
theorem hbTo_start (x v : Nat) : hbTo x v x = List.replicate x 0 := by
  unfold hbTo
  apply List.ext_getElem
  · simp
  · intro i h1 h2
    simp at h1
    simp
    intro h
    omega
theorem hbTo_put (x v j : Nat) : (hbTo x v (j + 1)).set j (UInt8.ofNat (v / 2 ^ (x - 1 - j) % 2)) = hbTo x v j := by
  unfold hbTo
  apply List.ext_getElem
  · simp
  · intro i h1 h2
    rw [List.getElem_set]
    split
    · rename_i e; subst e; simp
    · rename_i e
      simp only [List.getElem_map, List.getElem_range]
      have : (j + 1 ≤ i) ↔ (j ≤ i) := by omega
      simp only [this]
theorem hbTo_end (x v : Nat) : hbTo x v 0 = hb x v := by
  apply List.ext_getElem
  · rw [hbTo_length, hb_length]
  · intro i h1 h2
    rw [hbTo_length] at h1
    have h3 := hb_at x v i h1
    unfold bt at h3
    rw [List.getD_eq_getElem?_getD, List.getElem?_eq_getElem h2] at h3
    simp only [Option.getD_some] at h3
    apply UInt8.toNat_inj.1
    rw [h3]
    simp only [hbTo, List.getElem_map, List.getElem_range, Nat.zero_le, if_true]
    rw [UInt8.toNat_ofNat']
    omega
theorem bcells_set (l : List UInt8) (i : Nat) (y : UInt8) : (bcells l).set i (.int .u8 y.toNat) = bcells (l.set i y) := by simp [bcells, List.map_set]
theorem bcells_one (l : List UInt8) : ∀ v ∈ bcells l, v.oneCell' = true := by simp [bcells, Value.oneCell']

def BitsMade (w : World) (x v : Nat) (e : Ending) (w' : World) : Prop := ∃ g, e = .returned (.slice (some ⟨g, 0, none⟩) x x) ∧ Made 5 w (some ⟨g, 0, none⟩) x x (bcells (hb x v)) w'

end Go.Proofs.YtaicihghndoclaaGreat
