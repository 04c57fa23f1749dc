/- Layers 1, 5 and 8, the document: small things; what is put; the bits of a code. -/
import Derived.Test.YtjlkjebmilfgoaaGreatDRead
import Derived.Test.YtjlkjebmilfgoaaGreatM10
import Derived.Test.YtjlkjebmilfgoaaGreatIA
import Derived.Test.YtjlkjebmilfgoaaGreatM7
/- Layer 8, the document: rows of one number, the lengths of kind 1, how many bits a symbol has. -/
namespace Go.Proofs.YtjlkjebmilfgoaaGreat
open Go.RowKit

def SamePost (w : World) (A : Option Addr) (m : Nat) (o : List Nat) (e : Ending) (w' : World) : Prop := ∃ A' c', e = .returned (.slice A' m c') ∧ Row 3 w' A' m c' (ints o) ∧ Only (Lies A) w w' ∧ ∀ j, Lies A' j → Lies A j ∨ w.heap.size ≤ j
/-- Where it stands. -/
structure SmAt (w : World) (A A' : Option Addr) (z c : Nat) (o : List Nat) (wx : World) : Prop where
  row : Row 3 wx A' z c (ints o)
  only : Only (Lies A) w wx
  lies : ∀ j, Lies A' j → Lies A j ∨ w.heap.size ≤ j
theorem SmAt.more {w wx wy : World} {A A' A2 : Option Addr} {z c c2 m : Nat} {o r : List Nat} {b : Obj} (h : SmAt w A A' z c o wx) (hr : Row 3 wy A2 (z + m) c2 (ints o ++ ints r)) (ho : Only (Lies A') (wx.alloc b) wy) (ha : A2 = A' ∨ A2 = some ⟨(wx.alloc b).heap.size, 0, none⟩) : SmAt w A A2 (z + m) c2 (o ++ r) wy := by
  have hsz := h.only.size
  refine ⟨by rw [ints_append]; exact hr, (h.only.alloc b).andThen ho h.lies, fun j hj => ?_⟩
  rcases ha with e | e
  · exact h.lies j (e ▸ hj)
  · obtain ⟨ad, e1, e2⟩ := hj
    rw [e] at e1
    obtain rfl := Option.some.inj e1
    have e3 : (wx.alloc b).heap.size = j := e2
    simp at e3
    exact .inr (by omega)

set_option maxRecDepth 20000 in
set_option maxHeartbeats 2000000 in
theorem dsame (A : Option Addr) (z c n k : Nat) (o : List Nat) (w : World) (h : Row 3 w A z c (ints o)) (hz : z ≤ 1000) (hn : n ≤ 1000) : Calls Tryz.prog 91 #[.slice A z c, .int .i64 n, .int .i64 k] w (SamePost w A (z + n) (o ++ List.replicate n k)) := by
  have H0 : Hid (SmAt w A A (z + 0) c (o ++ List.replicate 0 k) w) := Lib.hid ⟨by simpa using h, Only.refl _ _, fun j hj => .inl hj⟩
  clear h
  go_enter Tryz.func91, Tryz.ntmps91
  go_wp2_with fail
  go_loopg [0, 7] n (fun gk v i wx => ∃ (j : Nat) (A' : Option Addr) (c' : Nat), i = .int .i64 j ∧ v = .slice A' (z + j) c' ∧ j + gk ≤ n ∧ n ≤ j + gk ∧ Hid (SmAt w A A' (z + j) c' (o ++ List.replicate j k) wx))
  case atStart => exact ⟨0, A, c, rfl, rfl, by omega, by omega, H0⟩
  case round =>
    clear H0
    obtain ⟨j, A', c', rfl, rfl, hj, hj2, HS⟩ := hrel
    by_cases hlt : j < n
    · obtain ⟨Z, hZ⟩ : ∃ Z, z + j = Z := ⟨_, rfl⟩
      have hZ2 : Z ≤ 2000 := by omega
      rw [hZ] at HS ⊢
      have HSR := Lib.hid (Src.oneInt Tryz.underlying44 wr .i64 k 1 3)
      have HRW := Lib.hid (HS.out.row.alloc (.cells #[.int .i64 (k : Nat)] 3))
      have HM : Hid (∀ A9 c9 w9, Row 3 w9 A9 (Z + 1) c9 (ints (o ++ List.replicate j k) ++ ints [k]) → Only (Lies A') (wr.alloc (.cells #[.int .i64 (k : Nat)] 3)) w9 → (A9 = A' ∨ A9 = some ⟨(wr.alloc (.cells #[.int .i64 (k : Nat)] 3)).heap.size, 0, none⟩) → SmAt w A A9 (Z + 1) c9 (o ++ List.replicate (j + 1) k) w9) := Lib.hid fun A9 c9 w9 r1 r2 r3 => by
        have := HS.out.more r1 r2 r3
        rw [List.append_assoc] at this
        rw [List.replicate_succ']
        exact this
      obtain ⟨wy, hwy⟩ : ∃ wy, wr.alloc (.cells #[.int .i64 (k : Nat)] 3) = wy := ⟨_, rfl⟩
      rw [hwy] at HSR HRW HM
      clear HS
      go_upto_region 4 with fail
      go_wp2_with (at_builtin
                   refine wpList_append_row rfl (.tmp 13) (.tmp 15) 44 44 3 rfl Tryz.underlying44 info3 A' Z c' 1 (ints (o ++ List.replicate j k)) (ints [k]) (.slice (some ⟨wr.heap.size, 0, none⟩) 1 1) (by rfl) (by rfl) HRW.out rfl HSR.out (by omega) (by omega) ?_
                   intro A9 c9 w9 hrow9 honly9 hlies9
                   have H9 := Lib.hid (HM.out A9 c9 w9 hrow9 honly9 hlies9)
                   clear hrow9 honly9 hlies9)
      go_roundg (gk - 1)
      case measure => omega
      case rel => exact ⟨j + 1, A9, c9, by go_num, by rw [← Nat.add_assoc, hZ], by omega, by omega, by rw [← Nat.add_assoc, hZ]; exact H9⟩
    · obtain rfl : j = n := by omega
      obtain ⟨Z, hZ⟩ : ∃ Z, z + j = Z := ⟨_, rfl⟩
      have HP : Hid (SamePost w A (z + j) (o ++ List.replicate j k) (.returned (.slice A' Z c')) wr) := Lib.hid ⟨A', c', by rw [hZ], HS.out.row, HS.out.only, HS.out.lies⟩
      rw [hZ]
      clear HS hZ
      go_wp2
      go_ret
      exact HP.out

def FixedPost (w : World) (e : Ending) (w' : World) : Prop := ∃ A1 c1 A2 c2, e = .returned (.tuple #[.slice A1 288 c1, .slice A2 32 c2]) ∧ See w' w'.heap.size A1 (ints fixA) ∧ See w' w'.heap.size A2 (ints fixB) ∧ Only (fun _ => False) w w' ∧ (∀ j, Lies A1 j → w.heap.size ≤ j) ∧ ∀ j, Lies A2 j → w.heap.size ≤ j

theorem fixA_parts : ((([] ++ List.replicate 144 8) ++ List.replicate 112 9) ++ List.replicate 24 7) ++ List.replicate 8 8 = fixA := by unfold fixA; rw [List.nil_append]
set_option maxRecDepth 20000 in
set_option maxHeartbeats 2000000 in
theorem dfixed (w : World) : Calls Tryz.prog 60 #[] w (FixedPost w) := by
  have hno : ∀ j, ¬ Lies none j := by rintro j ⟨ad, e, _⟩; cases e
  have HS : Hid (∀ (A : Option Addr) (z c n k : Nat) (o : List Nat) (w : World), Row 3 w A z c (ints o) → z ≤ 1000 → n ≤ 1000 → Calls Tryz.prog 91 #[.slice A z c, .int .i64 n, .int .i64 k] w (SamePost w A (z + n) (o ++ List.replicate n k))) := Lib.hid dsame
  have H1 := Lib.hid (HS.out none 0 0 144 8 [] w (Row.nil 3 w) (by decide) (by decide))
  go_enter Tryz.func60, Tryz.ntmps60
  go_wp2_with fail
  refine H1.out.mono ?_
  rintro e w1 ⟨A1, c1, rfl, r1, o1, l1⟩
  have o1' : Only (fun _ => False) w w1 := o1.mono fun j hj => hno j hj
  have l1' : ∀ j, Lies A1 j → w.heap.size ≤ j := fun j hj => (l1 j hj).elim (fun x => (hno j x).elim) id
  have H2 := Lib.hid (HS.out A1 144 c1 112 9 _ w1 r1 (by decide) (by decide))
  have HO1 := Lib.hid o1'
  have HL1 := Lib.hid l1'
  clear r1 o1 l1 o1' l1' H1
  go_wp2_with fail
  refine H2.out.mono ?_
  rintro e w2 ⟨A2, c2, rfl, r2, o2, l2⟩
  have HO2 : Hid (Only (fun _ => False) w w2) := Lib.hid (HO1.out.andThen o2 fun j hj => .inr (HL1.out j hj))
  have HL2 : Hid (∀ j, Lies A2 j → w.heap.size ≤ j) := Lib.hid fun j hj => (l2 j hj).elim (HL1.out j) fun x => Nat.le_trans HO1.out.size x
  have H3 := Lib.hid (HS.out A2 256 c2 24 7 _ w2 r2 (by decide) (by decide))
  clear r2 o2 l2 H2 HO1 HL1
  go_wp2_with fail
  refine H3.out.mono ?_
  rintro e w3 ⟨A3, c3, rfl, r3, o3, l3⟩
  have HO3 : Hid (Only (fun _ => False) w w3) := Lib.hid (HO2.out.andThen o3 fun j hj => .inr (HL2.out j hj))
  have HL3 : Hid (∀ j, Lies A3 j → w.heap.size ≤ j) := Lib.hid fun j hj => (l3 j hj).elim (HL2.out j) fun x => Nat.le_trans HO2.out.size x
  have H4 := Lib.hid (HS.out A3 280 c3 8 8 _ w3 r3 (by decide) (by decide))
  clear r3 o3 l3 H3 HO2 HL2
  go_wp2_with fail
  refine H4.out.mono ?_
  rintro e w4 ⟨A4, c4, rfl, r4, o4, l4⟩
  have HO4 : Hid (Only (fun _ => False) w w4) := Lib.hid (HO3.out.andThen o4 fun j hj => .inr (HL3.out j hj))
  have HL4 : Hid (∀ j, Lies A4 j → w.heap.size ≤ j) := Lib.hid fun j hj => (l4 j hj).elim (HL3.out j) fun x => Nat.le_trans HO3.out.size x
  rw [fixA_parts] at r4
  have HS4 := Lib.hid r4.see
  have H5 := Lib.hid (HS.out none 0 0 32 5 [] w4 (Row.nil 3 w4) (by decide) (by decide))
  clear r4 o4 l4 H4 HO3 HL3
  go_wp2_with fail
  refine H5.out.mono ?_
  rintro e w5 ⟨A5, c5, rfl, r5, o5, l5⟩
  have o5' : Only (fun _ => False) w4 w5 := o5.mono fun j hj => hno j hj
  have HP : Hid (FixedPost w (.returned (.tuple #[.slice A4 288 c4, .slice A5 32 c5])) w5) := Lib.hid ⟨A4, c4, A5, c5, rfl, (HS4.out.new o5').more o5'.size, r5.see, HO4.out.trans o5', HL4.out, fun j hj => (l5 j hj).elim (fun x => (hno j x).elim) fun x => Nat.le_trans HO4.out.size x⟩
  clear r5 o5 l5 o5' H5 HS hno
  go_wp2
  go_ret2
  exact HP.out

def BitPost (w : World) (b : Nat) (e : Ending) (w' : World) : Prop := e = .returned (.int .i64 (b : Nat)) ∧ Only (fun _ => False) w w'
set_option maxRecDepth 20000 in
set_option maxHeartbeats 2000000 in
theorem rbitsOf (A : Option Addr) (n c B : Nat) (R : List Sy) (w : World) (i0 : Nat) (r : Sy) (h : See w B A (sys R)) (hn : R.length = n) (h30 : n ≤ 30) (hi : R[i0]? = some r) (hne : ∀ (j : Nat) (q : Sy), j < i0 → R[j]? = some q → q.s ≠ r.s) :
    Calls Tryz.prog 130 #[.slice A n c, .int .i64 (r.s : Nat)] w fun e w' => e = .returned (.int .i64 (r.b : Nat)) ∧ w' = w := by
  obtain ⟨rs, rf, rb⟩ := r
  simp only at hne ⊢
  have hi0 : i0 < n := by
    rcases Nat.lt_or_ge i0 n with h1 | h1
    · exact h1
    · rw [List.getElem?_eq_none (by omega)] at hi; cases hi
  have HS := Lib.hid h
  have HN := Lib.hid hn
  have HI := Lib.hid hi
  have HE := Lib.hid hne
  clear h hn hi hne
  go_enter Tryz.func130, Tryz.ntmps130
  go_wp2_with fail
  go_loopg [5] n (fun gk i wx => ∃ (j : Nat), i = .int .i64 j ∧ j + gk ≤ n ∧ n ≤ j + gk ∧ j ≤ i0 ∧ wx = w)
  case atStart => exact ⟨0, rfl, by omega, by omega, by omega, rfl⟩
  case round =>
    obtain ⟨j, rfl, hg1, hg2, hj, rfl⟩ := hrel
    obtain ⟨q, hq⟩ := at_some R j n HN.out (by omega)
    obtain ⟨b0, off, rfl, _, c0, c1, c2⟩ := HS.out.sym j q hq
    by_cases hlt : j < i0
    · have hne := HE.out j q hlt hq
      obtain ⟨qs, qf, qb⟩ := q
      simp only at c0 c1 c2 hne
      clear hq
      have hne2 : ((qs : Int) == (rs : Int)) = false := by simp; omega
      have hne3 : ¬ (qs : Int) = (rs : Int) := by omega
      go_wp2_with fail
      go_roundg (gk - 1)
      case measure => omega
      case rel => exact ⟨j + 1, by go_num, by omega, by omega, by omega, rfl⟩
    · obtain rfl : j = i0 := by omega
      obtain rfl := Option.some.inj (HI.out.symm.trans hq)
      simp only at c0 c1 c2
      clear hq
      go_wp2
      go_ret
      exact ⟨rfl, rfl⟩

set_option maxRecDepth 20000 in
theorem dlengthBits (y : Nat) (w : World) (h1 : 257 ≤ y) (h2 : y ≤ 285) : Calls Tryz.prog 116 #[.int .i64 y] w (BitPost w (lw y)) := by
  have HB : Hid (∀ (A : Option Addr) (k B : Nat) (w : World), See w B A (sys lrows) → Calls Tryz.prog 130 #[.slice A 29 k, .int .i64 y] w fun e w' => e = .returned (.int .i64 (lw y : Nat)) ∧ w' = w) := Lib.hid fun A k B w hs => by
    by_cases h285 : y = 285
    · subst h285
      exact rbitsOf A 29 k B lrows w 28 ⟨285, 258, 0⟩ hs lrows_length (by decide) lrows_last fun j q hj hq => by
        rcases lrows_any j q hq with ⟨h3, rfl⟩ | ⟨h3, _⟩
        · show 257 + j ≠ 285
          omega
        · omega
    · obtain ⟨t, rfl⟩ : ∃ t, y = 257 + t := ⟨y - 257, by omega⟩
      have e : lw (257 + t) = lb t := by unfold lw; rw [if_neg h285, Nat.add_sub_cancel_left]
      rw [e]
      exact rbitsOf A 29 k B lrows w t (lrow t) hs lrows_length (by decide) (lrows_at t (by omega)) fun j q hj hq => by
        rcases lrows_any j q hq with ⟨h3, rfl⟩ | ⟨h3, _⟩
        · show 257 + j ≠ 257 + t
          omega
        · omega
  obtain ⟨v, hv⟩ : ∃ v, lw y = v := ⟨_, rfl⟩
  rw [hv] at HB ⊢
  clear hv h1 h2
  go_enter Tryz.func116, Tryz.ntmps116
  go_wp2_with (first
      | (go_at_call 93; refine (rlengths _).mono ?_; rintro e w2 ⟨A, k, rfl, hm⟩; have HM := Lib.hid hm; clear hm)
      | (go_at_call 130; refine (HB.out A k _ w2 HM.out.1.see).mono ?_; rintro e w3 ⟨rfl, rfl⟩))
  go_ret
  exact ⟨rfl, HM.out.2.1⟩
set_option maxRecDepth 20000 in
theorem ddistBits (y : Nat) (w : World) (h2 : y < 30) : Calls Tryz.prog 118 #[.int .i64 y] w (BitPost w (db y)) := by
  have HB : Hid (∀ (A : Option Addr) (k B : Nat) (w : World), See w B A (sys drows) → Calls Tryz.prog 130 #[.slice A 30 k, .int .i64 y] w fun e w' => e = .returned (.int .i64 (db y : Nat)) ∧ w' = w) := Lib.hid fun A k B w hs =>
    rbitsOf A 30 k B drows w y (drow y) hs drows_length (by decide) (drows_at y h2) fun j q hj hq => by
      obtain ⟨h3, rfl⟩ := drows_any j q hq
      show j ≠ y
      omega
  obtain ⟨v, hv⟩ : ∃ v, db y = v := ⟨_, rfl⟩
  rw [hv] at HB ⊢
  clear hv h2
  go_enter Tryz.func118, Tryz.ntmps118
  go_wp2_with (first
      | (go_at_call 94; refine (rdistances _).mono ?_; rintro e w2 ⟨A, k, rfl, hm⟩; have HM := Lib.hid hm; clear hm)
      | (go_at_call 130; refine (HB.out A k _ w2 HM.out.1.see).mono ?_; rintro e w3 ⟨rfl, rfl⟩))
  go_ret
  exact ⟨rfl, HM.out.2.1⟩
end Go.Proofs.YtjlkjebmilfgoaaGreat

/- Layer 1, the document: a writer of bits, and what is put. -/
namespace Go.Proofs.YtjlkjebmilfgoaaGreat
open Go.RowKit

structure Wt (w : World) (b : Nat) (A : Option Addr) (n c : Nat) (l : List UInt8) : Prop where
  is : Is w b 60 [.slice A n c]
  row : Row 5 w A n c (bcells l)
  len : l.length = n
  nb : ¬ Lies A b
/-- What it comes to. -/
def WtTo (w : World) (b : Nat) (A : Option Addr) (l : List UInt8) (wx : World) : Prop := ∃ A' n c, Wt wx b A' n c l ∧ Only (fun j => j = b ∨ Lies A j) w wx ∧ ∀ j, Lies A' j → Lies A j ∨ w.heap.size ≤ j
theorem Wt.new {w w' : World} {b : Nat} {A : Option Addr} {n c : Nat} {l : List UInt8} (h : Wt w b A n c l) (k : Only (fun _ => False) w w') : Wt w' b A n c l := ⟨h.is.only k (fun f => f), h.row.only k (fun _ _ f => f), h.len, h.nb⟩
/-- Bits laid behind its bits, and the row laid into the writer. -/
theorem Wt.append {wx w2 : World} {b : Nat} {A A2 : Option Addr} {n c c2 m : Nat} {l r : List UInt8} (h : Wt wx b A n c l) (hr : Row 5 w2 A2 (n + m) c2 (bcells (l ++ r))) (hl : r.length = m) (ho : Only (Lies A) wx w2) (ha : A2 = A ∨ A2 = some ⟨wx.heap.size, 0, none⟩) :
    Wt (w2.setCell ⟨b, 0, none⟩ (.slice A2 (n + m) c2)) b A2 (n + m) c2 (l ++ r) ∧ Only (fun j => j = b ∨ Lies A j) wx (w2.setCell ⟨b, 0, none⟩ (.slice A2 (n + m) c2)) ∧ (∀ j, Lies A2 j → Lies A j ∨ wx.heap.size ≤ j) ∧ w2.cell? ⟨b, 0, none⟩ = some (.slice A n c) ∧ w2.frozen? ⟨b, 0, none⟩ = false := by
  have hlies : ∀ j, Lies A2 j → Lies A j ∨ wx.heap.size ≤ j := by
    intro j hj
    rcases ha with e | e
    · exact .inl (e ▸ hj)
    · obtain ⟨ad, e1, e2⟩ := hj
      rw [e] at e1
      obtain rfl := Option.some.inj e1
      exact .inr (Nat.le_of_eq e2)
  have hbl := h.is.lt
  have hi2 := h.is.only ho h.nb
  have hnb : ¬ Lies A2 b := fun hj => (hlies b hj).elim h.nb (fun x => by omega)
  have ow := Only.one w2 b 0 (.slice A2 (n + m) c2)
  exact ⟨⟨hi2.set 0 _, hr.only ow (fun j hj e => hnb (e ▸ hj)), by rw [List.length_append, h.len, hl], hnb⟩, (ho.mono fun j hj => .inr hj).trans (ow.mono fun j hj => .inl hj), hlies, hi2.cell 0 rfl, hi2.frozen 0⟩
theorem WtTo.trans {w wx wy : World} {b : Nat} {A A1 : Option Addr} {l : List UInt8} (ho : Only (fun j => j = b ∨ Lies A j) w wx) (hl : ∀ j, Lies A1 j → Lies A j ∨ w.heap.size ≤ j) (h : WtTo wx b A1 l wy) : WtTo w b A l wy := by
  obtain ⟨A', n, c, g1, g2, g3⟩ := h
  refine ⟨A', n, c, g1, ho.andThen g2 ?_, fun j hj => (g3 j hj).elim (hl j) fun x => .inr (Nat.le_trans ho.size x)⟩
  rintro j (e | e)
  · exact .inl (.inl e)
  · exact (hl j e).imp (fun x => .inr x) id

set_option maxRecDepth 20000 in
set_option maxHeartbeats 2000000 in
theorem dput (b : Nat) (A : Option Addr) (n c v m : Nat) (l : List UInt8) (w : World) (h : Wt w b A n c l) (hn : n ≤ 1000000) (hv : v < 4294967296) (hm : m ≤ 20) :
    Calls Tryz.prog 24 #[.pointer (some ⟨b, 0, none⟩), .int .u32 v, .int .i64 m] w fun e w' => e = .returned (.tuple #[]) ∧ WtTo w b A (l ++ nb v m) w' := by
  have H0 : Hid (Wt w b A (n + 0) c (l ++ nb v 0) ∧ Only (fun j => j = b ∨ Lies A j) w w ∧ ∀ j, Lies A j → Lies A j ∨ w.heap.size ≤ j) := Lib.hid ⟨by simpa [nb] using h, Only.refl _ _, fun j hj => .inl hj⟩
  clear h
  go_enter Tryz.func24, Tryz.ntmps24
  go_wp2_with fail
  go_loopg [1, 6] m (fun gk x i wx => ∃ (j : Nat) (A' : Option Addr) (c' : Nat), i = .int .i64 j ∧ x = .int .u32 (v / 2 ^ j : Nat) ∧ j + gk ≤ m ∧ m ≤ j + gk ∧ Hid (Wt wx b A' (n + j) c' (l ++ nb v j) ∧ Only (fun j => j = b ∨ Lies A j) w wx ∧ ∀ j, Lies A' j → Lies A j ∨ w.heap.size ≤ j))
  case atStart => exact ⟨0, A, c, rfl, by simp, by omega, by omega, H0⟩
  case round =>
    clear H0
    obtain ⟨j, A', c', rfl, rfl, hj, hj2, HW⟩ := hrel
    have hq : v / 2 ^ j < 4294967296 := Nat.lt_of_le_of_lt (Nat.div_le_self _ _) hv
    obtain ⟨q, hq1⟩ : ∃ q, v / 2 ^ j = q := ⟨_, rfl⟩
    rw [hq1] at hq ⊢
    have HQ := Lib.hid hq1
    obtain ⟨N, hN⟩ : ∃ N, n + j = N := ⟨_, rfl⟩
    rw [hN] at HW
    have hNb : N ≤ 1000100 := by omega
    have HNN := Lib.hid hN
    clear hq1 hN
    by_cases hlt : j < m
    · have d1 : decide ((j : Int) < (m : Int)) = true := by simp; omega
      have d2 : decide ((j : Int) < 32) = true := by simp; omega
      have d3 : (j : Int) < (m : Int) := by omega
      have d4 : (j : Int) < 32 := by omega
      obtain ⟨y, hy⟩ : ∃ y, q % 2 = y := ⟨_, rfl⟩
      have hy2 : (q : Int) % 2 = (y : Int) := by omega
      have hy3 : y < 2 := by omega
      have c0 := HW.out.1.is.cell 0 rfl
      have oa : Only (fun _ => False) wr (wr.alloc (.cells #[.int .u8 (y : Nat)] 5)) := (Only.refl _ wr).alloc _
      have HAW := Lib.hid (HW.out.1.new oa)
      have HSR := Lib.hid (Src.oneInt Tryz.underlying34 wr .u8 y 1 5)
      obtain ⟨wy, hwy⟩ : ∃ wy, wr.alloc (.cells #[.int .u8 (y : Nat)] 5) = wy := ⟨_, rfl⟩
      rw [hwy] at HAW HSR oa
      have HFN : Hid (∀ A9 c9 w9, Row 5 w9 A9 (N + 1) c9 (bcells (l ++ nb v j) ++ [.int .u8 (y : Nat)]) → Only (Lies A') wy w9 → (A9 = A' ∨ A9 = some ⟨wy.heap.size, 0, none⟩) →
          (Wt (w9.setCell ⟨b, 0, none⟩ (.slice A9 (N + 1) c9)) b A9 (N + 1) c9 (l ++ nb v (j + 1)) ∧ Only (fun j => j = b ∨ Lies A j) w (w9.setCell ⟨b, 0, none⟩ (.slice A9 (N + 1) c9)) ∧ ∀ j, Lies A9 j → Lies A j ∨ w.heap.size ≤ j) ∧ w9.cell? ⟨b, 0, none⟩ = some (.slice A' N c') ∧ w9.frozen? ⟨b, 0, none⟩ = false) := Lib.hid fun A9 c9 w9 r1 r2 r3 => by
        have eb : (UInt8.ofNat y).toNat = y := by rw [UInt8.toNat_ofNat']; omega
        rw [← eb, bcells_snoc] at r1
        obtain ⟨f1, f2, f3, f4, f5⟩ := HAW.out.append r1 rfl r2 r3
        have en : l ++ nb v (j + 1) = l ++ nb v j ++ [UInt8.ofNat y] := by rw [nb_succ, ← List.append_assoc, HQ.out, hy]
        have o1 := (HW.out.2.1.trans (oa.mono fun _ f => f.elim))
        refine ⟨⟨by rw [en]; exact f1, o1.andThen f2 ?_, fun i hi => (f3 i hi).elim (HW.out.2.2 i) fun x => .inr (Nat.le_trans o1.size x)⟩, f4, f5⟩
        rintro i (e | e)
        · exact .inl (.inl e)
        · exact (HW.out.2.2 i e).imp (fun x => .inr x) id
      clear HW oa
      go_wp2_with (at_builtin
                   refine wpList_append_row rfl (.tmp 20) (.tmp 24) 34 34 5 rfl Tryz.underlying34 info5 A' N c' 1 (bcells (l ++ nb v j)) [.int .u8 (y : Nat)] (.slice (some ⟨wr.heap.size, 0, none⟩) 1 1) (by rfl) (by rfl) HAW.out.row rfl HSR.out (by omega) (by omega) ?_
                   intro A9 c9 w9 hrow9 honly9 hlies9
                   obtain ⟨h9, k1, k2⟩ := HFN.out A9 c9 w9 hrow9 honly9 hlies9
                   have H9 := Lib.hid h9
                   clear hrow9 honly9 hlies9 h9)
      go_roundg (gk - 1)
      case measure => omega
      case rel =>
        refine ⟨j + 1, A9, c9, by go_num, ?_, by omega, by omega, by rw [← Nat.add_assoc, HNN.out]; exact H9⟩
        have : v / 2 ^ (j + 1) = q / 2 := by rw [Nat.pow_succ, ← Nat.div_div_eq_div_mul, HQ.out]
        rw [this]
        go_num
    · obtain rfl : j = m := by omega
      have d1 : decide ((j : Int) < (j : Int)) = false := by simp
      have HF : Hid (WtTo w b A (l ++ nb v j) wr) := Lib.hid ⟨A', _, c', HW.out.1, HW.out.2.1, HW.out.2.2⟩
      clear HW
      go_wp2
      go_end0
      exact ⟨rfl, HF.out⟩
end Go.Proofs.YtjlkjebmilfgoaaGreat

/- Layer 5: the document's bits of a code. -/
namespace Go.Proofs.YtjlkjebmilfgoaaGreat
open Go.RowKit

/-- The bits from place j on, the highest first; ahead of them zeros. -/
def hbTo (x v j : Nat) : List UInt8 := (List.range x).map fun p => if j ≤ p then UInt8.ofNat (v / 2 ^ (x - 1 - p) % 2) else 0
theorem hbTo_length (x v j : Nat) : (hbTo x v j).length = x := by simp [hbTo]
theorem hbTo_start (x v : Nat) : hbTo x v x = List.replicate x 0 := by
  unfold hbTo
  apply List.ext_getElem
  · simp
  · intro i h1 h2
    simp at h1
    simp
    intro h
    omega
theorem hbTo_put (x v j : Nat) : (hbTo x v (j + 1)).set j (UInt8.ofNat (v / 2 ^ (x - 1 - j) % 2)) = hbTo x v j := by
  unfold hbTo
  apply List.ext_getElem
  · simp
  · intro i h1 h2
    rw [List.getElem_set]
    split
    · rename_i e; subst e; simp
    · rename_i e
      simp only [List.getElem_map, List.getElem_range]
      have : (j + 1 ≤ i) ↔ (j ≤ i) := by omega
      simp only [this]
theorem hbTo_end (x v : Nat) : hbTo x v 0 = hb x v := by
  apply List.ext_getElem
  · rw [hbTo_length, hb_length]
  · intro i h1 h2
    rw [hbTo_length] at h1
    have h3 := hb_at x v i h1
    unfold bt at h3
    rw [List.getD_eq_getElem?_getD, List.getElem?_eq_getElem h2] at h3
    simp only [Option.getD_some] at h3
    apply UInt8.toNat_inj.1
    rw [h3]
    simp only [hbTo, List.getElem_map, List.getElem_range, Nat.zero_le, if_true]
    rw [UInt8.toNat_ofNat']
    omega
theorem bcells_set (l : List UInt8) (i : Nat) (y : UInt8) : (bcells l).set i (.int .u8 y.toNat) = bcells (l.set i y) := by simp [bcells, List.map_set]
theorem bcells_one (l : List UInt8) : ∀ v ∈ bcells l, v.oneCell' = true := by simp [bcells, Value.oneCell']

def BitsMade (w : World) (x v : Nat) (e : Ending) (w' : World) : Prop := ∃ g, e = .returned (.slice (some ⟨g, 0, none⟩) x x) ∧ Made 5 w (some ⟨g, 0, none⟩) x x (bcells (hb x v)) w'

set_option maxHeartbeats 1000000 in
theorem rbits (A A2 : Option Addr) (n c c2 B s : Nat) (l : List Nat) (w : World) (h : See w B A (ints l)) (h2 : See w B A2 (ints (cds l))) (hn : l.length = n) (h288 : n ≤ 288) (hl : Low l) (hs : Has l s) :
    Calls Tryz.prog 62 #[.slice A n c, .slice A2 n c2, .int .i64 s] w (BitsMade w (ln l s) (cd l s)) := by
  have hsl := hs.1
  have hs0 := hs.2
  have hx := ln_le l s hl
  have hv := cd_small l (by omega) hl s
  obtain ⟨b, off, rfl, _, q1⟩ := h s _ (ints_at l s hsl)
  obtain ⟨b2, off2, rfl, _, q2⟩ := h2 s _ (ints_at (cds l) s (by rw [cds_length]; exact hsl))
  have HS := Lib.hid h
  have HS2 := Lib.hid h2
  rw [show ln (cds l) s = cd l s from map_at _ _ s hsl] at q2
  obtain ⟨x, hx1⟩ : ∃ x, ln l s = x := ⟨_, rfl⟩
  obtain ⟨v, hv1⟩ : ∃ v, cd l s = v := ⟨_, rfl⟩
  rw [hx1] at q1 hs0 hx ⊢
  rw [hv1] at q2 hv ⊢
  rw [hn] at hsl
  have hmk := run_make_row Tryz.underlying34 info5 (by omega) x (by omega) w
  have hst : Made 5 w (some ⟨w.heap.size, 0, none⟩) x x (bcells (hbTo x v x)) (w.alloc (.cells (List.replicate x (Value.int .u8 0)).toArray 5)) := by
    rw [hbTo_start]
    have e : bcells (List.replicate x 0) = List.replicate x (Value.int .u8 0) := by simp [bcells]
    rw [e]
    exact zeros_made (e := 5) (w := w) (kd := .u8) x (by omega)
  have q1' : (w.alloc (.cells (List.replicate x (Value.int .u8 0)).toArray 5)).cell? ⟨b, off + s, none⟩ = some (.int .i64 (x : Int)) := (World.cell?_of_block (hst.2.1.block b (cell_lt q1) id)).trans q1
  have q2' : (w.alloc (.cells (List.replicate x (Value.int .u8 0)).toArray 5)).cell? ⟨b2, off2 + s, none⟩ = some (.int .i64 (v : Int)) := (World.cell?_of_block (hst.2.1.block b2 (cell_lt q2) id)).trans q2
  obtain ⟨R, hR⟩ : ∃ R, w.heap.size = R := ⟨_, rfl⟩
  rw [hR] at hst hmk
  obtain ⟨wz, hwz⟩ : ∃ wz, w.alloc (.cells (List.replicate x (Value.int .u8 0)).toArray 5) = wz := ⟨_, rfl⟩
  rw [hwz] at hst hmk q1' q2'
  clear hwz
  have HST := Lib.hid hst
  clear hst hR hx1 hv1 h h2 hs hl hn
  go_enter Tryz.func62, Tryz.ntmps62
  go_wp2_with fail
  go_loopg [8, 9] x (fun gk u i wx => ∃ j : Nat, i = .int .i64 ((j : Int) - 1) ∧ u = .int .i64 (v / 2 ^ (x - j) : Nat) ∧ j ≤ gk ∧ gk ≤ j ∧ j ≤ x ∧ Made 5 w (some ⟨R, 0, none⟩) x x (bcells (hbTo x v j)) wx)
  case atStart => exact ⟨x, by go_num, by simp, by omega, by omega, by omega, HST.out⟩
  case round =>
    clear HST hmk q1 q2 q1' q2'
    obtain ⟨j, rfl, rfl, hj, hj2, hjx, hM⟩ := hrel
    by_cases hlt : 0 < j
    · obtain ⟨p, rfl⟩ : ∃ p, j = p + 1 := ⟨j - 1, by omega⟩
      obtain ⟨g, e4, c6, c7⟩ := hM.1.cell (bcells_at (hbTo x v (p + 1)) p (by rw [hbTo_length]; omega))
      simp only [Option.some.injEq, Addr.mk.injEq, and_true] at e4
      subst e4
      have hput := hbTo_put x v p
      have hdiv : v / 2 ^ (x - p) = v / 2 ^ (x - (p + 1)) / 2 := by
        rw [Nat.div_div_eq_div_mul, ← Nat.pow_succ, show (x - (p + 1)).succ = x - p by omega]
      have hdl : v / 2 ^ (x - (p + 1)) ≤ v := Nat.div_le_self _ _
      rw [show x - 1 - p = x - (p + 1) by omega] at hput
      obtain ⟨u, hu⟩ : ∃ u, v / 2 ^ (x - (p + 1)) = u := ⟨_, rfl⟩
      rw [hu] at hput hdiv hdl ⊢
      obtain ⟨cb, hby, hcb⟩ : ∃ cb : UInt8, (u : Int) % 2 = (cb.toNat : Int) ∧ cb = UInt8.ofNat (u % 2) := ⟨UInt8.ofNat (u % 2), by rw [UInt8.toNat_ofNat']; omega, rfl⟩
      rw [← hcb] at hput
      have HP := Lib.hid hput
      have HD := Lib.hid hdiv
      have HM := Lib.hid hM
      have hcl : cb.toNat < 256 := cb.toNat_lt
      clear hput hdiv hu hcb hM
      go_wp2_with fail
      go_roundg (gk - 1)
      case measure => omega
      case rel =>
        refine ⟨p, by go_num, by rw [HD.out]; go_num, by omega, by omega, by omega, ?_⟩
        rw [← HP.out, ← bcells_set]
        exact HM.out.setAt p _
    · obtain rfl : j = 0 := by omega
      rw [hbTo_end] at hM
      have HM := Lib.hid hM
      clear hM
      obtain ⟨u, hu⟩ : ∃ u, v / 2 ^ (x - 0) = u := ⟨_, rfl⟩
      rw [hu]
      clear hu
      go_wp2
      go_ret
      exact ⟨R, rfl, HM.out⟩
end Go.Proofs.YtjlkjebmilfgoaaGreat
