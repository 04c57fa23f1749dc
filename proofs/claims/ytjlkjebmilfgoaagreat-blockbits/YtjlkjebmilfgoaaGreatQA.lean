/- Layer 6: rows turned, and kept in order, by the sort. -/
import Derived.Test.YtjlkjebmilfgoaaGreatQSMath
import Derived.Test.YtjlkjebmilfgoaaGreatTShelf
import Derived.Test.YtjlkjebmilfgoaaGreatChecked
import Derived.Deep.LoopGhost
import Derived.Sort.WalkA
import Derived.Sort.WalkB2
import Derived.Sort.WalkB12
import Derived.Lib.Hide
/- The library's stable sort, its smallest parts: ranges exchanged, a row turned. -/
namespace Go.Proofs.YtjlkjebmilfgoaaGreat
open Go.Shelf Go.RowKit Go.Lib Go.Sort
variable {α : Type} [Inhabited α]

set_option maxHeartbeats 4000000 in
set_option maxRecDepth 100000 in
theorem swapRange (enc : α → Value) (blk off cap a b n : Nat) (d0 d : Array α) (w0 w : World) (fv : Value) (R : Row1 enc w0 blk off d0) (hs : d0.size = d.size) (S : SW enc w0 blk off d w)
    (ha : a + n ≤ d.size) (hb : b + n ≤ d.size) (hsz : d.size < 4611686018427387904) :
    Calls Tryz.prog 141 #[.slice (some ⟨blk, off, none⟩) d.size cap, .int .i64 a, .int .i64 b, .int .i64 n, fv] w fun e w' => e = .returned (.tuple #[]) ∧ SW enc w0 blk off (swR d a b n) w' := by
  have hcl0 := R.hO.cells
  simp only [Value.cells] at hcl0
  have hst := R.hO.store Tryz.prog
  have mixed := Tryz.laysSlF20_f138.mixed
  have HS := Lib.hid S
  have HD := Lib.hid hs
  clear S hs
  go_enter Tryz.func141, Tryz.ntmps141
  go_wp2_with fail
  go_loopg [10] n (fun gk i wx => ∃ k : Nat, i = .int .i64 k ∧ k + gk ≤ n ∧ n ≤ k + gk ∧ Hid (SW enc w0 blk off (swR d a b k) wx))
  case atStart => exact ⟨0, rfl, by omega, by omega, HS⟩
  case round =>
    clear HS
    obtain ⟨k, rfl, hk, hk2, HI⟩ := hrel
    by_cases hlt : k < n
    · have hds : (swR d a b k).size = d0.size := by rw [swR_size, HD.out]
      have hds2 : (swR d a b k).size = d.size := by rw [swR_size]
      obtain ⟨iN, hiN⟩ : ∃ q, a + k = q := ⟨_, rfl⟩
      obtain ⟨jN, hjN⟩ : ∃ q, b + k = q := ⟨_, rfl⟩
      have hi1 : iN < (swR d a b k).size := by omega
      have hj1 : jN < (swR d a b k).size := by omega
      have ea : ((a : Int) + (k : Int)) = (iN : Int) := by omega
      have eb : ((b : Int) + (k : Int)) = (jN : Int) := by omega
      have ra : IntKind.i64.wrap (iN : Int) = (iN : Int) := by rw [IntKind.wrap_i64]; omega
      have rb : IntKind.i64.wrap (jN : Int) = (jN : Int) := by rw [IntKind.wrap_i64]; omega
      have ba : (iN : Int) < (d.size : Int) := by omega
      have bb : (jN : Int) < (d.size : Int) := by omega
      have c1 := HI.out.c1 R hds iN hi1
      have c2 := HI.out.c1 R hds jN hj1
      have f1 := HI.out.f1 R hds iN hi1
      have f2 := HI.out.f1 R hds jN hj1
      obtain ⟨x, hx⟩ : ∃ x, (swR d a b k)[iN]! = x := ⟨_, rfl⟩
      obtain ⟨y, hy⟩ : ∃ y, (swR d a b k)[jN]! = y := ⟨_, rfl⟩
      have S3 : Hid (SW enc w0 blk off (swR d a b (k + 1)) ((wr.setCell ⟨blk, off + iN, none⟩ (enc y)).setCell ⟨blk, off + jN, none⟩ (enc x)).drew) := by
        show SW _ _ _ _ (swp _ _ _) _
        rw [← hx, ← hy, hiN, hjN]
        exact HI.out.swapped R iN jN hi1 hj1
      obtain ⟨u, c3⟩ := HI.out.c2 R hds iN jN hi1 hj1 (enc y)
      rw [hx] at c1
      rw [hy] at c2
      clear hx hy hiN hjN HI hi1 hj1 hds hds2
      go_wp2_with fail
      go_big_region_o
      clear c1 c2 c3 f1 f2
      generalize ((wr.setCell ⟨blk, off + iN, none⟩ (enc y)).setCell ⟨blk, off + jN, none⟩ (enc x)).drew = w3 at S3 ⊢
      go_wp2
      go_roundg (gk - 1)
      case measure => omega
      case rel => exact ⟨k + 1, by go_num, by omega, by omega, S3⟩
    · obtain rfl : k = n := by omega
      go_wp2
      go_end0
      exact ⟨rfl, HI.out⟩
end Go.Proofs.YtjlkjebmilfgoaaGreat

/- The library's stable sort: a row turned (rotateCmpFunc). -/
namespace Go.Proofs.YtjlkjebmilfgoaaGreat
open Go.Shelf Go.RowKit Go.Lib Go.Sort
variable {α : Type} [Inhabited α]

/-- Where turning stands: the places ahead of m that are left, and those from m on. -/
def TurnAt (enc : α → Value) (blk off a m b : Nat) (d : Array α) (w0 : World) (i j : Nat) (wx : World) : Prop :=
  ∃ dj : Array α, dj.size = d.size ∧ SW enc w0 blk off dj wx ∧ PermIn a b d dj ∧ ∀ d', Rot dj d' (m - i) m (m + j) → Rot d d' a m b

set_option maxHeartbeats 4000000 in
set_option maxRecDepth 100000 in
theorem rotate (enc : α → Value) (blk off cap a m b : Nat) (d0 d : Array α) (w0 w : World) (fv : Value) (R : Row1 enc w0 blk off d0) (hs : d0.size = d.size) (S : SW enc w0 blk off d w)
    (ham : a < m) (hmb : m < b) (hb : b ≤ d.size) (hsz : d.size < 4611686018427387904) :
    Calls Tryz.prog 140 #[.slice (some ⟨blk, off, none⟩) d.size cap, .int .i64 a, .int .i64 m, .int .i64 b, fv] w fun e w' => e = .returned (.tuple #[]) ∧ ∃ d', SW enc w0 blk off d' w' ∧ PermIn a b d d' ∧ Rot d d' a m b := by
  have HD := Lib.hid hs
  have HR := Lib.hid R
  have HST : Hid (TurnAt enc blk off a m b d w0 (m - a) (b - m) w) := ⟨d, rfl, S, permIn_refl d a b, fun d' h => by
    have e1 : m - (m - a) = a := by omega
    have e2 : m + (b - m) = b := by omega
    rw [e1, e2] at h
    exact h⟩
  clear S hs R
  obtain ⟨i0, hi0⟩ : ∃ i, m - a = i := ⟨_, rfl⟩
  obtain ⟨j0, hj0⟩ : ∃ j, b - m = j := ⟨_, rfl⟩
  rw [hi0, hj0] at HST
  have e1 : (m : Int) - (a : Int) = (i0 : Int) := by omega
  have e2 : (b : Int) - (m : Int) = (j0 : Int) := by omega
  go_enter Tryz.func140, Tryz.ntmps140
  go_wp2_with fail
  go_loopg [10, 11] (i0 + j0) (fun gk vi vj wx => ∃ i j : Nat, vi = .int .i64 i ∧ vj = .int .i64 j ∧ i + j ≤ gk ∧ 0 < i ∧ 0 < j ∧ i ≤ i0 ∧ j ≤ j0 ∧ Hid (TurnAt enc blk off a m b d w0 i j wx))
  case atStart => exact ⟨i0, j0, by first | rfl | go_num, by first | rfl | go_num, by omega, by omega, by omega, by omega, by omega, HST⟩
  case round =>
    clear HST
    obtain ⟨i, j, rfl, rfl, hg, hi, hj, hi2, hj2, HI⟩ := hrel
    obtain ⟨k, hk⟩ : ∃ k, m - i = k := ⟨_, rfl⟩
    have e3 : (m : Int) - (i : Int) = (k : Int) := by omega
    by_cases hne : i = j
    · subst hne
      go_wp2_with fail
      obtain ⟨dj, hdj, S, hp, hr⟩ := HI.out
      have hc := swapRange enc blk off cap k m i d0 dj w0 wr fv HR.out (by rw [hdj]; exact HD.out) S (by omega) (by omega) (by omega)
      rw [hdj] at hc
      have hl := hr _ (Rot.last dj (by omega) (by omega))
      rw [hk] at hl
      have HL := Lib.hid hl
      have HP := Lib.hid (permIn_trans _ _ _ a b hp (swR_perm dj k m i a b (by omega) (by omega) (by omega) (by omega) (by omega)))
      have HC := Lib.hid hc
      clear hc hl hr hp S HI hdj
      go_wp2_with fail
      refine HC.out.mono ?_
      rintro e w1 ⟨rfl, h1⟩
      have H1 := Lib.hid h1
      clear h1 HC
      go_wp2
      go_end0
      exact ⟨rfl, _, H1.out, HP.out, HL.out⟩
    · have hne2 : ¬ (i : Int) = (j : Int) := by omega
      by_cases hgt : j < i
      · obtain ⟨dj, hdj, S, hp, hr⟩ := HI.out
        have hc := swapRange enc blk off cap k m j d0 dj w0 wr fv HR.out (by rw [hdj]; exact HD.out) S (by omega) (by omega) (by omega)
        rw [hdj] at hc
        have HN : Hid (∀ wx, SW enc w0 blk off (swR dj k m j) wx → TurnAt enc blk off a m b d w0 (i - j) j wx) := Lib.hid fun wx hx => ⟨_, by rw [swR_size]; exact hdj, hx, permIn_trans _ _ _ a b hp (swR_perm dj k m j a b (by omega) (by omega) (by omega) (by omega) (by omega)), fun d' hd' => by
          refine hr d' (Rot.left (by omega) (by omega) hgt (by omega) ?_)
          have e4 : m - (i - j) = m - i + j := by omega
          rw [e4] at hd'
          rw [hk] at hd' ⊢
          exact hd'⟩
        have HC := Lib.hid hc
        clear hc hr hp S HI hdj
        obtain ⟨i', hi'⟩ : ∃ i', i - j = i' := ⟨_, rfl⟩
        have e5 : (i : Int) - (j : Int) = (i' : Int) := by omega
        rw [hi'] at HN
        go_wp2_with fail
        refine HC.out.mono ?_
        rintro e w1 ⟨rfl, h1⟩
        have H1 := Lib.hid (HN.out _ h1)
        clear h1 HC HN
        go_wp2
        go_roundg (i' + j)
        case measure => omega
        case rel => exact ⟨i', j, by first | rfl | go_num, rfl, Nat.le_refl _, by omega, by omega, by omega, by omega, H1⟩
      · obtain ⟨dj, hdj, S, hp, hr⟩ := HI.out
        obtain ⟨j', hj'⟩ : ∃ j', j - i = j' := ⟨_, rfl⟩
        obtain ⟨q, hq⟩ : ∃ q, m + j = q := ⟨_, rfl⟩
        obtain ⟨q', hq'⟩ : ∃ q', m + j - i = q' := ⟨_, rfl⟩
        have e5 : (j : Int) - (i : Int) = (j' : Int) := by omega
        have e6 : (m : Int) + (j : Int) = (q : Int) := by omega
        have e7 : (q : Int) - (i : Int) = (q' : Int) := by omega
        have hc := swapRange enc blk off cap k q' i d0 dj w0 wr fv HR.out (by rw [hdj]; exact HD.out) S (by omega) (by omega) (by omega)
        rw [hdj] at hc
        have HN : Hid (∀ wx, SW enc w0 blk off (swR dj k q' i) wx → TurnAt enc blk off a m b d w0 i j' wx) := Lib.hid fun wx hx => ⟨_, by rw [swR_size]; exact hdj, hx, permIn_trans _ _ _ a b hp (swR_perm dj k q' i a b (by omega) (by omega) (by omega) (by omega) (by omega)), fun d' hd' => by
          refine hr d' (Rot.right (by omega) (by omega) (by omega) (by omega) ?_)
          rw [hq', hj']
          rw [hk] at hd' ⊢
          exact hd'⟩
        have HC := Lib.hid hc
        clear hc hr hp S HI hdj
        go_wp2_with fail
        refine HC.out.mono ?_
        rintro e w1 ⟨rfl, h1⟩
        have H1 := Lib.hid (HN.out _ h1)
        clear h1 HC HN
        go_wp2
        go_roundg (i + j')
        case measure => omega
        case rel => exact ⟨i, j', rfl, by first | rfl | go_num, Nat.le_refl _, by omega, by omega, by omega, by omega, H1⟩
end Go.Proofs.YtjlkjebmilfgoaaGreat

/- Rows turned: by none, by one. -/
namespace Go.Proofs.YtjlkjebmilfgoaaGreat
open Go.Sort
variable {α : Type} [Inhabited α]

theorem Rot.none (d : Array α) (m b : Nat) (h : m ≤ b) : Rot d d m m b ∧ Rot d d m b b := by
  refine ⟨fun x => ?_, fun x => ?_⟩
  · by_cases h1 : m ≤ x ∧ x < m + (b - m)
    · rw [if_pos h1]; congr 1; omega
    · rw [if_neg h1, if_neg (by omega)]
  · rw [if_neg (by omega)]
    by_cases h1 : m + (b - b) ≤ x ∧ x < b
    · rw [if_pos h1]; congr 1; omega
    · rw [if_neg h1]
theorem Rot.up {d d' : Array α} {a n : Nat} (h : Rot d d' a (a + 1) (a + 1 + n)) (hs : a + n + 1 < d'.size) : Rot d (swp d' (a + n) (a + n + 1)) a (a + 1) (a + 1 + (n + 1)) := by
  intro x
  rw [swp_at _ _ _ _ (by omega) hs (by omega), h, h, h]
  by_cases h1 : x = a + n
  · rw [if_pos h1, if_neg (by omega), if_neg (by omega), if_pos (by omega)]; congr 1; omega
  · rw [if_neg h1]
    by_cases h2 : x = a + n + 1
    · rw [if_pos h2, if_neg (by omega), if_pos (by omega), if_neg (by omega), if_pos (by omega)]; congr 1; omega
    · rw [if_neg h2]
      by_cases h3 : a ≤ x ∧ x < a + n
      · rw [if_pos (by omega), if_pos (by omega)]
      · rw [if_neg (by omega), if_neg (by omega), if_neg (by omega), if_neg (by omega)]
theorem Rot.down {d d' : Array α} {m k : Nat} (h : Rot d d' (k + 1) m (m + 1)) (hk : k + 1 ≤ m) (hs : k + 1 < d'.size) : Rot d (swp d' (k + 1) k) k m (m + 1) := by
  intro x
  rw [swp_at _ _ _ _ (by omega) (by omega) (by omega), h, h, h]
  by_cases h1 : x = k + 1
  · rw [if_pos h1, if_neg (by omega), if_neg (by omega), if_neg (by omega), if_pos (by omega)]; congr 1; omega
  · rw [if_neg h1]
    by_cases h2 : x = k
    · rw [if_pos h2, if_pos (by omega), if_pos (by omega)]; congr 1; omega
    · rw [if_neg h2]
      by_cases h3 : k + 2 ≤ x ∧ x < m + 1
      · rw [if_neg (by omega), if_pos (by omega), if_neg (by omega), if_pos (by omega)]
      · rw [if_neg (by omega), if_neg (by omega), if_neg (by omega), if_neg (by omega)]
end Go.Proofs.YtjlkjebmilfgoaaGreat

/- Plain words on a stable sort: numbers that are neither below each other stay in their order. -/
namespace Go.Proofs.YtjlkjebmilfgoaaGreat
open Go.Sort
variable {α : Type} [Inhabited α] {lt : α → α → Bool}

/-- Places of like numbers rise. -/
def St (lt : α → α → Bool) (P : α → Nat) (d : Array α) : Prop := ∀ i j, i < j → j < d.size → lt d[i]! d[j]! = false → lt d[j]! d[i]! = false → P d[i]! ≤ P d[j]!
/-- Like numbers stay in their order. -/
def Keeps (lt : α → α → Bool) (d d' : Array α) : Prop := ∀ P : α → Nat, St lt P d → St lt P d'
theorem Keeps.refl (d : Array α) : Keeps lt d d := fun _ h => h
theorem Keeps.trans {d e f : Array α} (h : Keeps lt d e) (k : Keeps lt e f) : Keeps lt d f := fun P hP => k P (h P hP)

theorem rot_place {d d' : Array α} {a m b : Nat} (hmb : m ≤ b) (hr : Rot d d' a m b) (x : Nat) : ∃ y, d'[x]! = d[y]! ∧ ((a ≤ x ∧ x < a + (b - m) ∧ y = x + m - a) ∨ (a + (b - m) ≤ x ∧ x < b ∧ y = x + m - b) ∨ ((x < a ∨ b ≤ x) ∧ y = x)) := by
  rw [hr x]
  by_cases h1 : a ≤ x ∧ x < a + (b - m)
  · rw [if_pos h1]
    exact ⟨_, rfl, .inl ⟨h1.1, h1.2, rfl⟩⟩
  · rw [if_neg h1]
    by_cases h2 : a + (b - m) ≤ x ∧ x < b
    · rw [if_pos h2]
      exact ⟨_, rfl, .inr (.inl ⟨h2.1, h2.2, rfl⟩)⟩
    · rw [if_neg h2]
      exact ⟨_, rfl, .inr (.inr ⟨by omega, rfl⟩)⟩
theorem rot_keeps {d d' : Array α} {a m b : Nat} (ham : a ≤ m) (hmb : m ≤ b) (hb : b ≤ d.size) (hs : d'.size = d.size) (hr : Rot d d' a m b) (h : ∀ i j, a ≤ i → i < m → m ≤ j → j < b → lt d[j]! d[i]! = true) : Keeps lt d d' := by
  intro P hP i j hij hj h1 h2
  rw [hs] at hj
  obtain ⟨y, ey, hy⟩ := rot_place hmb hr i
  obtain ⟨z, ez, hz⟩ := rot_place hmb hr j
  rw [ey, ez] at h1 h2 ⊢
  by_cases hyz : y < z
  · exact hP y z hyz (by omega) h1 h2
  · have := h z y (by omega) (by omega) (by omega) (by omega)
    rw [h1] at this
    cases this
theorem swp_keeps (d : Array α) (j : Nat) (hj : j + 1 < d.size) (h : lt d[j + 1]! d[j]! = true) : Keeps lt d (swp d (j + 1) j) := by
  have hr : Rot d (swp d (j + 1) j) j (j + 1) (j + 1 + 1) := Rot.down (Rot.none d (j + 1) (j + 1 + 1) (by omega)).1 (Nat.le_refl _) hj
  refine rot_keeps (by omega) (by omega) (by omega) (by rw [swp_size]) hr fun x y h1 h2 h3 h4 => ?_
  obtain rfl : x = j := by omega
  obtain rfl : y = x + 1 := by omega
  exact h
theorem insInner_keeps (a : Nat) : ∀ (j : Nat) (d : Array α), j < d.size → Keeps lt d (insInner lt a j d) ∧ (insInner lt a j d).size = d.size
  | 0, d, _ => by rw [insInner]; exact ⟨.refl d, rfl⟩
  | j + 1, d, hj => by
    rw [insInner]
    split
    · rename_i h
      simp only [Bool.and_eq_true] at h
      have ih := insInner_keeps a j (swp d (j + 1) j) (by rw [swp_size]; omega)
      exact ⟨(swp_keeps d j hj h.2).trans ih.1, by rw [ih.2, swp_size]⟩
    · exact ⟨.refl d, rfl⟩
theorem insOuter_keeps (a b : Nat) : ∀ (k i : Nat) (d : Array α), b - i = k → b ≤ d.size → Keeps lt d (insOuter lt a b i d)
  | 0, i, d, h, _ => by
    rw [insOuter, if_neg (by omega)]
    exact .refl d
  | k + 1, i, d, h, hb => by
    rw [insOuter, if_pos (by omega)]
    have h1 := insInner_keeps (lt := lt) a i d (by omega)
    exact h1.1.trans (insOuter_keeps a b k (i + 1) _ (by omega) (by rw [h1.2]; exact hb))
theorem insertion_keeps (d : Array α) (a b : Nat) (hb : b ≤ d.size) : Keeps lt d (insertionSort lt d a b) := insOuter_keeps a b _ _ d rfl hb

/-- The same numbers within a range, like ones in their order. -/
def PermK (lt : α → α → Bool) (a b : Nat) (d d' : Array α) : Prop := d'.size = d.size ∧ (∀ p, p < a ∨ b ≤ p → d'[p]! = d[p]!) ∧ (PermIn a b d d' ∧ Keeps lt d d')
theorem PermK.of {a b : Nat} {d d' : Array α} (h : PermIn a b d d') (k : Keeps lt d d') : PermK lt a b d d' := ⟨h.1, h.2.1, h, k⟩
theorem permK_refl (d : Array α) (a b : Nat) : PermK lt a b d d := .of (permIn_refl d a b) (.refl d)
theorem permK_trans (d e f : Array α) (a b : Nat) (h : PermK lt a b d e) (k : PermK lt a b e f) : PermK lt a b d f := .of (permIn_trans d e f a b h.2.2.1 k.2.2.1) (h.2.2.2.trans k.2.2.2)
theorem permK_mono (d e : Array α) (a b lo hi : Nat) (h1 : lo ≤ a) (h2 : b ≤ hi) (h3 : hi ≤ d.size) (h : PermK lt a b d e) : PermK lt lo hi d e := .of (permIn_mono d e a b lo hi h1 h2 h3 h.2.2.1) h.2.2.2

/-- One number put behind those that are below it. -/
theorem up_keeps (hS : SWO lt) {a i b : Nat} {d d' : Array α} (hai : a + 1 ≤ i) (hib : i ≤ b) (hb : b ≤ d.size) (h2 : SortedIn lt (a + 1) b d) (hlo : i = a + 1 ∨ lt d[i - 1]! d[a]! = true) (hp : PermIn a b d d') (hr : Rot d d' a (a + 1) i) : PermK lt a b d d' := by
  refine .of hp (rot_keeps (by omega) hai (by omega) hp.1 hr fun x y h3 h4 h5 h6 => ?_)
  obtain rfl : x = a := by omega
  rcases hlo with h7 | h7
  · omega
  · cases hc : lt d[y]! d[x]! with
    | true => rfl
    | false =>
      have := hS.ntrans _ _ _ (sle hS h2 y (i - 1) h5 (by omega) (by omega)) hc
      rw [h7] at this
      cases this
/-- One number put ahead of those that are above it. -/
theorem down_keeps (hS : SWO lt) {a i m : Nat} {d d' : Array α} (hai : a ≤ i) (him : i ≤ m) (hb : m + 1 ≤ d.size) (h1 : SortedIn lt a m d) (hhi : i = m ∨ lt d[m]! d[i]! = true) (hp : PermIn a (m + 1) d d') (hr : Rot d d' i m (m + 1)) : PermK lt a (m + 1) d d' := by
  refine .of hp (rot_keeps him (by omega) (by omega) hp.1 hr fun x y h3 h4 h5 h6 => ?_)
  obtain rfl : y = m := by omega
  rcases hhi with h7 | h7
  · omega
  · cases hc : lt d[y]! d[x]! with
    | true => rfl
    | false =>
      have := hS.ntrans _ _ _ hc (sle hS h1 i x (by omega) h3 h4)
      rw [h7] at this
      cases this
/-- Two parts changed, all of the second below all of the first. -/
theorem part_keeps (hS : SWO lt) {a m b s e : Nat} {d d' : Array α} (hs1 : a ≤ s) (hs2 : s ≤ m) (he1 : m ≤ e) (he2 : e ≤ b) (hb : b ≤ d.size) (h1 : SortedIn lt a m d) (h2 : SortedIn lt m b d) (hst : s = m ∨ e = m ∨ lt d[e - 1]! d[s]! = true)
    (hp : PermIn s e d d') (hr : Rot d d' s m e) : PermK lt a b d d' := by
  refine .of (permIn_mono _ _ s e a b hs1 he2 hb hp) (rot_keeps hs2 he1 (by omega) hp.1 hr fun x y h3 h4 h5 h6 => ?_)
  rcases hst with h7 | h7 | h7
  · omega
  · omega
  · cases hc : lt d[y]! d[x]! with
    | true => rfl
    | false =>
      have := hS.ntrans _ _ _ (hS.ntrans _ _ _ (sle hS h2 y (e - 1) h5 (by omega) (by omega)) hc) (sle hS h1 s x (by omega) h3 h4)
      rw [h7] at this
      cases this
end Go.Proofs.YtjlkjebmilfgoaaGreat

/- The library's stable sort: one number put among those behind it, or ahead of it. -/
namespace Go.Proofs.YtjlkjebmilfgoaaGreat
open Go.Shelf Go.RowKit Go.Lib Go.Sort
variable {α : Type} [Inhabited α]

variable {lt : α → α → Bool}
theorem put_up (hS : SWO lt) {a i b : Nat} {d d' : Array α} (hai : a + 1 ≤ i) (hib : i ≤ b) (h2 : SortedIn lt (a + 1) b d) (hlo : i = a + 1 ∨ lt d[i - 1]! d[a]! = true) (hhi : i = b ∨ lt d[i]! d[a]! = false) (hr : Rot d d' a (a + 1) i) : SortedIn lt a b d' := by
  have h1 : SortedIn lt a (a + 1) d := fun p q hp hpq hq => by omega
  obtain ⟨_, q2, q3, q4, q5⟩ := parted (mid := i - 1) (s := a) (e := i) hS (by omega) (by omega) (by omega) (by omega) (by omega) h1 h2 (.inl rfl) (hlo.elim (fun h => .inr (.inl h)) (fun h => .inr (.inr (hS.asymmA h)))) hr
  refine sjoin q2 (sjoin q3 q4 fun p q hp hp2 hq hq2 => ?_) q5
  rcases hhi with h | h
  · omega
  · rw [hr q, hr p, if_neg (by omega), if_neg (by omega), if_neg (by omega), if_pos (by omega)]
    have e : p + (a + 1) - i = a := by omega
    rw [e]
    exact hS.ntrans _ _ _ (sle hS h2 i q (by omega) hq hq2) h
theorem put_down (hS : SWO lt) {a i m : Nat} {d d' : Array α} (hai : a ≤ i) (him : i ≤ m) (h1 : SortedIn lt a m d) (hlo : i = a ∨ lt d[m]! d[i - 1]! = false) (hhi : i = m ∨ lt d[m]! d[i]! = true) (hr : Rot d d' i m (m + 1)) : SortedIn lt a (m + 1) d' := by
  have h2 : SortedIn lt m (m + 1) d := fun p q hp hpq hq => by omega
  obtain ⟨q1, q2, q3, _, q5⟩ := parted (mid := i + 1) (s := i) (e := m + 1) (b := m + 1) hS hai him (by omega) (by omega) (by omega) h1 h2 (.inr (.inl rfl)) (by
    rcases hhi with h | h
    · exact .inl h
    · refine .inr (.inr ?_)
      rw [Nat.add_sub_cancel]
      exact hS.asymmA h) hr
  refine sjoin (sjoin q1 q2 fun p q hp hp2 hq hq2 => ?_) q3 q5
  rcases hlo with h | h
  · omega
  · obtain rfl : q = i := by omega
    rw [hr q, hr p, if_pos (by omega), if_neg (by omega), if_neg (by omega)]
    have e : q + m - q = m := by omega
    rw [e]
    exact hS.ntrans _ _ _ h (sle hS h1 p (q - 1) hp (by omega) (by omega))

/-- What a call of a merge leaves: the same numbers, in order. -/
def Merged (enc : α → Value) (cf : α → α → Int) (blk off : Nat) (w0 : World) (a b : Nat) (d : Array α) (e : Ending) (w' : World) : Prop :=
  e = .returned (.tuple #[]) ∧ ∃ d', SW enc w0 blk off d' w' ∧ PermK (ltOf cf) a b d d' ∧ SortedIn (ltOf cf) a b d'

/-- Where a search by halves stands. -/
def HalfAt (p : Nat → Bool) (lo hi i j : Nat) : Prop := lo ≤ i ∧ i ≤ j ∧ j ≤ hi ∧ (i = lo ∨ p (i - 1) = true) ∧ (j = hi ∨ p j = false)

set_option maxHeartbeats 8000000 in
set_option maxRecDepth 100000 in
theorem symOne (enc : α → Value) (cf : α → α → Int) (hO : SWO (ltOf cf)) (g : Nat) (cb : Array Value) (blk off cap a b : Nat) (d0 d : Array α) (w0 w : World)
    (eg : ∀ args w, (callFunc g args).run Tryz.prog w = .ok (.enter g args) w) (hcmp : CmpLays1 Tryz.prog g cb enc cf blk off d0.size w0) (R : Row1 enc w0 blk off d0) (hs : d0.size = d.size) (S : SW enc w0 blk off d w)
    (hmb : a + 1 < b) (hb : b ≤ d.size) (hsz : d.size < 1152921504606846976) (h2 : SortedIn (ltOf cf) (a + 1) b d) :
    Calls Tryz.prog 139 #[.slice (some ⟨blk, off, none⟩) d.size cap, .int .i64 a, .int .i64 (a + 1 : Nat), .int .i64 b, .func (.func g) #[] cb] w (Merged enc cf blk off w0 a b d) := by
  have hcl0 := R.hO.cells
  simp only [Value.cells] at hcl0
  have hst := R.hO.store Tryz.prog
  have mixed := Tryz.laysSlF20_f138.mixed
  have HC := Lib.hid hcmp
  have HS := Lib.hid S
  have HD := Lib.hid hs
  have HO := Lib.hid hO
  have H2 := Lib.hid h2
  clear S hs hcmp hO h2
  obtain ⟨m, hm⟩ : ∃ m, a + 1 = m := ⟨_, rfl⟩
  rw [hm]
  have e1 : (m : Int) - (a : Int) = 1 := by omega
  go_enter Tryz.func139, Tryz.ntmps139
  go_wp2_with fail
  go_loopg [10, 11] (b - m) (fun gk vi vj wx => ∃ i j : Nat, vi = .int .i64 i ∧ vj = .int .i64 j ∧ j - i ≤ gk ∧ i ≤ j ∧ j ≤ b ∧ m ≤ i ∧ Hid (HalfAt (fun h => ltOf cf d[h]! d[a]!) m b i j) ∧ Hid (SW enc w0 blk off d wx))
  case atStart => exact ⟨m, b, rfl, rfl, by omega, by omega, by omega, by omega, Lib.hid ⟨by omega, by omega, by omega, .inl rfl, .inl rfl⟩, HS⟩
  case round =>
    clear HS
    obtain ⟨i, j, rfl, rfl, hg, hij, hjb, hmi, HA, HI⟩ := hrel
    by_cases hlt : i < j
    · obtain ⟨h, hh⟩ : ∃ h, (i + j) / 2 = h := ⟨_, rfl⟩
      have eij : ((i : Int) + (j : Int)) = ((i + j : Nat) : Int) := by omega
      obtain ⟨t, ht⟩ : ∃ t, i + j = t := ⟨_, rfl⟩
      rw [ht] at eij hh
      have ht2 : t < 2305843009213693952 := by omega
      have eh : (t : Int) / 2 = (h : Int) := by omega
      have hhd : (h : Int) < (d.size : Int) := by omega
      have had : (a : Int) < (d.size : Int) := by omega
      have l1 := HI.out.cl R HD.out.symm h (by omega)
      have l2 := HI.out.cl R HD.out.symm a (by omega)
      have hc := HI.out.cmp HC.out HD.out.symm d[h]! d[a]!
      cases hv : ltOf cf d[h]! d[a]! with
      | true =>
        have HV := Lib.hid hv
        have hv2 : cf d[h]! d[a]! < 0 := of_decide_eq_true hv
        obtain ⟨r, hr⟩ : ∃ r, cf d[h]! d[a]! = r := ⟨_, rfl⟩
        obtain ⟨x, hx⟩ : ∃ x, d[h]! = x := ⟨_, rfl⟩
        obtain ⟨y, hy⟩ : ∃ x, d[a]! = x := ⟨_, rfl⟩
        rw [hr] at hc hv2
        rw [hx] at hc l1
        rw [hy] at hc l2
        have hd2 : decide (r < 0) = true := decide_eq_true hv2
        clear hx hy hr hv
        go_wp2_with fail
        go_quiet_grown (first | (go_at_fn g; refine Calls.grown_of (hc _ _)))
        have S2 : Hid (SW enc w0 blk off d (grow (wr.drewN nq) osq)) := HI.out.grown nq osq
        clear l1 l2 hc HI
        generalize grow (wr.drewN nq) osq = w2 at S2 ⊢
        clear nq osq
        go_wp2
        go_roundg (j - (h + 1))
        case measure => omega
        case rel => exact ⟨h + 1, j, by go_num, rfl, Nat.le_refl _, by omega, by omega, by omega, Lib.hid ⟨by omega, by omega, by omega, .inr HV.out, HA.out.2.2.2.2⟩, S2⟩
      | false =>
        have HV := Lib.hid hv
        have hv2 : ¬ cf d[h]! d[a]! < 0 := of_decide_eq_false hv
        obtain ⟨r, hr⟩ : ∃ r, cf d[h]! d[a]! = r := ⟨_, rfl⟩
        obtain ⟨x, hx⟩ : ∃ x, d[h]! = x := ⟨_, rfl⟩
        obtain ⟨y, hy⟩ : ∃ x, d[a]! = x := ⟨_, rfl⟩
        rw [hr] at hc hv2
        rw [hx] at hc l1
        rw [hy] at hc l2
        have hd2 : decide (r < 0) = false := decide_eq_false hv2
        clear hx hy hr hv
        go_wp2_with fail
        go_quiet_grown (first | (go_at_fn g; refine Calls.grown_of (hc _ _)))
        have S2 : Hid (SW enc w0 blk off d (grow (wr.drewN nq) osq)) := HI.out.grown nq osq
        clear l1 l2 hc HI
        generalize grow (wr.drewN nq) osq = w2 at S2 ⊢
        clear nq osq
        go_wp2
        go_roundg (h - i)
        case measure => omega
        case rel => exact ⟨i, h, rfl, by first | rfl | go_num, Nat.le_refl _, by omega, by omega, by omega, Lib.hid ⟨by omega, by omega, by omega, HA.out.2.2.2.1, .inr HV.out⟩, S2⟩
    · obtain rfl : i = j := by omega
      have HUP := Lib.hid fun d' => (put_up (b := b) (d' := d') (i := i) (d := d) (a := a) HO.out (by omega) hjb H2.out (HA.out.2.2.2.1.imp (fun h => by omega) id) HA.out.2.2.2.2)
      have HKP : Hid (∀ dk : Array α, PermIn a b d dk → Rot d dk a (a + 1) i → PermK (ltOf cf) a b d dk) := Lib.hid fun dk hp hr => up_keeps HO.out (by omega) hjb hb H2.out (HA.out.2.2.2.1.imp (fun h => by omega) id) hp hr
      clear HA H2
      go_wp2_with fail
      have HS : Hid (∃ dk : Array α, dk.size = d.size ∧ SW enc w0 blk off dk wr ∧ PermIn a b d dk ∧ Rot d dk a (a + 1) (a + 1 + (a - a))) := Lib.hid ⟨d, rfl, HI.out, permIn_refl d a b, by rw [Nat.sub_self]; exact (Rot.none d a (a + 1) (by omega)).2⟩
      clear HI
      go_loopg [13] (i - 1 - a) (fun gk vk wx => ∃ k : Nat, vk = .int .i64 k ∧ i - 1 - k ≤ gk ∧ a ≤ k ∧ k ≤ i - 1 ∧ Hid (∃ dk : Array α, dk.size = d.size ∧ SW enc w0 blk off dk wx ∧ PermIn a b d dk ∧ Rot d dk a (a + 1) (a + 1 + (k - a))))
      case atStart => exact ⟨a, rfl, by omega, by omega, by omega, HS⟩
      case round =>
        clear HS
        obtain ⟨k, rfl, hgk, hak, hki, HI⟩ := hrel
        by_cases hlt2 : k < i - 1
        · obtain ⟨dk, hdk, S1, hp, hr⟩ := HI.out
          obtain ⟨q, hq⟩ : ∃ q, k + 1 = q := ⟨_, rfl⟩
          have hk1 : k < dk.size := by omega
          have hq1 : q < dk.size := by omega
          have eq1 : (k : Int) + 1 = (q : Int) := by omega
          have rq1 : IntKind.i64.wrap (q : Int) = (q : Int) := by rw [IntKind.wrap_i64]; omega
          have bk : (k : Int) < (d.size : Int) := by omega
          have bq : (q : Int) < (d.size : Int) := by omega
          have ei : (k : Int) < (i : Int) - 1 := by omega
          have HN : Hid (∀ wx, SW enc w0 blk off (swp dk k q) wx → ∃ dk : Array α, dk.size = d.size ∧ SW enc w0 blk off dk wx ∧ PermIn a b d dk ∧ Rot d dk a (a + 1) (a + 1 + (q - a))) := Lib.hid fun wx hx =>
            ⟨_, by rw [swp_size]; exact hdk, hx, permIn_trans _ _ _ a b hp (swp_permIn _ a b k q (by omega) (by omega) (by omega) (by omega) (by omega)), by
              have e1 : k = a + (k - a) := by omega
              have e2 : q = a + (k - a) + 1 := by omega
              have e3 : q - a = k - a + 1 := by omega
              have := Rot.up hr (by omega)
              rw [← e2, ← e1] at this
              rw [e3]
              exact this⟩
          have hds : dk.size = d0.size := by rw [hdk, HD.out]
          have c1 := S1.c1 R hds k hk1
          have c2 := S1.c1 R hds q hq1
          have f1 := S1.f1 R hds k hk1
          have f2 := S1.f1 R hds q hq1
          obtain ⟨x, hx⟩ : ∃ x, dk[k]! = x := ⟨_, rfl⟩
          obtain ⟨y, hy⟩ : ∃ y, dk[q]! = y := ⟨_, rfl⟩
          have S3 : Hid (SW enc w0 blk off (swp dk k q) ((wr.setCell ⟨blk, off + k, none⟩ (enc y)).setCell ⟨blk, off + q, none⟩ (enc x)).drew) := by
            rw [← hx, ← hy]
            exact S1.swapped R k q hk1 hq1
          obtain ⟨u, c3⟩ := S1.c2 R hds k q hk1 hq1 (enc y)
          rw [hx] at c1
          rw [hy] at c2
          clear hx hy hr hp S1 HI hk1 hq1 hds hdk
          go_wp2_with fail
          go_big_region_o
          clear c1 c2 c3 f1 f2
          generalize ((wr.setCell ⟨blk, off + k, none⟩ (enc y)).setCell ⟨blk, off + q, none⟩ (enc x)).drew = w3 at S3 ⊢
          go_wp2
          go_roundg (i - 1 - q)
          case measure => omega
          case rel => exact ⟨q, by first | rfl | go_num | (congr 1), Nat.le_refl _, by omega, by omega, Lib.hid (HN.out _ S3.out)⟩
        · obtain rfl : k = i - 1 := by omega
          have ei : ¬ ((i - 1 : Nat) : Int) < (i : Int) - 1 := by omega
          obtain ⟨dk, hdk, S1, hp, hr⟩ := HI.out
          have e3 : a + 1 + (i - 1 - a) = i := by omega
          rw [e3] at hr
          have HZ := Lib.hid (show Merged enc cf blk off w0 a b d (.returned (.tuple #[])) wr from ⟨rfl, dk, S1, HKP.out dk hp hr, HUP.out dk hr⟩)
          clear hdk S1 hp hr HI HUP HKP
          go_wp2
          go_end0
          exact HZ.out
end Go.Proofs.YtjlkjebmilfgoaaGreat

/- The library's stable sort: the last number put among those ahead of it. -/
namespace Go.Proofs.YtjlkjebmilfgoaaGreat
open Go.Shelf Go.RowKit Go.Lib Go.Sort
variable {α : Type} [Inhabited α]

set_option maxHeartbeats 8000000 in
set_option maxRecDepth 100000 in
theorem symTwo (enc : α → Value) (cf : α → α → Int) (hO : SWO (ltOf cf)) (g : Nat) (cb : Array Value) (blk off cap a m : Nat) (d0 d : Array α) (w0 w : World)
    (eg : ∀ args w, (callFunc g args).run Tryz.prog w = .ok (.enter g args) w) (hcmp : CmpLays1 Tryz.prog g cb enc cf blk off d0.size w0) (R : Row1 enc w0 blk off d0) (hs : d0.size = d.size) (S : SW enc w0 blk off d w)
    (ham : a + 1 < m) (hb : m + 1 ≤ d.size) (hsz : d.size < 1152921504606846976) (h1 : SortedIn (ltOf cf) a m d) :
    Calls Tryz.prog 139 #[.slice (some ⟨blk, off, none⟩) d.size cap, .int .i64 a, .int .i64 m, .int .i64 (m + 1 : Nat), .func (.func g) #[] cb] w (Merged enc cf blk off w0 a (m + 1) d) := by
  have hcl0 := R.hO.cells
  simp only [Value.cells] at hcl0
  have hst := R.hO.store Tryz.prog
  have mixed := Tryz.laysSlF20_f138.mixed
  have HC := Lib.hid hcmp
  have HS := Lib.hid S
  have HD := Lib.hid hs
  have HO := Lib.hid hO
  have H1 := Lib.hid h1
  clear S hs hcmp hO h1
  have HPost : Hid (∀ wx dk, SW enc w0 blk off dk wx → PermK (ltOf cf) a (m + 1) d dk → SortedIn (ltOf cf) a (m + 1) dk → Merged enc cf blk off w0 a (m + 1) d (.returned (.tuple #[])) wx) := Lib.hid fun wx dk h1 h2 h3 => ⟨rfl, dk, h1, h2, h3⟩
  generalize hPost : Merged enc cf blk off w0 a (m + 1) d = Post at HPost ⊢
  clear hPost
  obtain ⟨b, hbm⟩ : ∃ b, m + 1 = b := ⟨_, rfl⟩
  rw [hbm]
  obtain ⟨q0, hq0⟩ : ∃ q0, m - a = q0 := ⟨_, rfl⟩
  have e0 : (m : Int) - (a : Int) = (q0 : Int) := by omega
  have e00 : ¬ (q0 : Int) = 1 := by omega
  have e01 : ((q0 : Int) == 1) = false := by simpa using e00
  have e1 : (b : Int) - (m : Int) = 1 := by omega
  go_enter Tryz.func139, Tryz.ntmps139
  go_wp2_with fail
  go_loopg [14, 15] (m - a) (fun gk vi vj wx => ∃ i j : Nat, vi = .int .i64 i ∧ vj = .int .i64 j ∧ j - i ≤ gk ∧ i ≤ j ∧ j ≤ m ∧ a ≤ i ∧ Hid (HalfAt (fun h => !ltOf cf d[m]! d[h]!) a m i j) ∧ Hid (SW enc w0 blk off d wx))
  case atStart => exact ⟨a, m, rfl, rfl, by omega, by omega, by omega, by omega, Lib.hid ⟨by omega, by omega, by omega, .inl rfl, .inl rfl⟩, HS⟩
  case round =>
    clear HS
    obtain ⟨i, j, rfl, rfl, hg, hij, hjb, hmi, HA, HI⟩ := hrel
    by_cases hlt : i < j
    · obtain ⟨h, hh⟩ : ∃ h, (i + j) / 2 = h := ⟨_, rfl⟩
      have eij : ((i : Int) + (j : Int)) = ((i + j : Nat) : Int) := by omega
      obtain ⟨t, ht⟩ : ∃ t, i + j = t := ⟨_, rfl⟩
      rw [ht] at eij hh
      have ht2 : t < 2305843009213693952 := by omega
      have eh : (t : Int) / 2 = (h : Int) := by omega
      have hhd : (h : Int) < (d.size : Int) := by omega
      have had : (m : Int) < (d.size : Int) := by omega
      have l1 := HI.out.cl R HD.out.symm h (by omega)
      have l2 := HI.out.cl R HD.out.symm m (by omega)
      have hc := HI.out.cmp HC.out HD.out.symm d[m]! d[h]!
      cases hv : ltOf cf d[m]! d[h]! with
      | true =>
        have HV : Hid ((!ltOf cf d[m]! d[h]!) = false) := Lib.hid (by rw [hv]; rfl)
        have hv2 : cf d[m]! d[h]! < 0 := of_decide_eq_true hv
        obtain ⟨r, hr⟩ : ∃ r, cf d[m]! d[h]! = r := ⟨_, rfl⟩
        obtain ⟨x, hx⟩ : ∃ x, d[h]! = x := ⟨_, rfl⟩
        obtain ⟨y, hy⟩ : ∃ x, d[m]! = x := ⟨_, rfl⟩
        rw [hr] at hc hv2
        rw [hx] at hc l1
        rw [hy] at hc l2
        have hd2 : decide (r < 0) = true := decide_eq_true hv2
        clear hx hy hr hv
        go_wp2_with fail
        go_quiet_grown (first | (go_at_fn g; refine Calls.grown_of (hc _ _)))
        have S2 : Hid (SW enc w0 blk off d (grow (wr.drewN nq) osq)) := HI.out.grown nq osq
        clear l1 l2 hc HI
        generalize grow (wr.drewN nq) osq = w2 at S2 ⊢
        clear nq osq
        go_wp2
        go_roundg (h - i)
        case measure => omega
        case rel => exact ⟨i, h, rfl, by first | rfl | go_num, Nat.le_refl _, by omega, by omega, by omega, Lib.hid ⟨by omega, by omega, by omega, HA.out.2.2.2.1, .inr HV.out⟩, S2⟩
      | false =>
        have HV : Hid ((!ltOf cf d[m]! d[h + 1 - 1]!) = true) := Lib.hid (by rw [Nat.add_sub_cancel, hv]; rfl)
        have hv2 : ¬ cf d[m]! d[h]! < 0 := of_decide_eq_false hv
        obtain ⟨r, hr⟩ : ∃ r, cf d[m]! d[h]! = r := ⟨_, rfl⟩
        obtain ⟨x, hx⟩ : ∃ x, d[h]! = x := ⟨_, rfl⟩
        obtain ⟨y, hy⟩ : ∃ x, d[m]! = x := ⟨_, rfl⟩
        rw [hr] at hc hv2
        rw [hx] at hc l1
        rw [hy] at hc l2
        have hd2 : decide (r < 0) = false := decide_eq_false hv2
        clear hx hy hr hv
        go_wp2_with fail
        go_quiet_grown (first | (go_at_fn g; refine Calls.grown_of (hc _ _)))
        have S2 : Hid (SW enc w0 blk off d (grow (wr.drewN nq) osq)) := HI.out.grown nq osq
        clear l1 l2 hc HI
        generalize grow (wr.drewN nq) osq = w2 at S2 ⊢
        clear nq osq
        go_wp2
        go_roundg (j - (h + 1))
        case measure => omega
        case rel => exact ⟨h + 1, j, by go_num, rfl, Nat.le_refl _, by omega, by omega, by omega, Lib.hid ⟨by omega, by omega, by omega, .inr HV.out, HA.out.2.2.2.2⟩, S2⟩
    · obtain rfl : i = j := by omega
      have HUP := Lib.hid fun d' => put_down (d' := d') (i := i) (d := d) (a := a) HO.out (by omega) hjb H1.out (HA.out.2.2.2.1.imp id fun h => by simpa using h) (HA.out.2.2.2.2.imp id fun h => by simpa using h)
      have HKP : Hid (∀ dk : Array α, PermIn a (m + 1) d dk → Rot d dk i m (m + 1) → PermK (ltOf cf) a (m + 1) d dk) := Lib.hid fun dk hp hr => down_keeps HO.out (by omega) hjb hb H1.out (HA.out.2.2.2.2.imp id fun h => by simpa using h) hp hr
      clear HA H1
      go_wp2_with fail
      have HS : Hid (∃ dk : Array α, dk.size = d.size ∧ SW enc w0 blk off dk wr ∧ PermIn a (m + 1) d dk ∧ Rot d dk m m (m + 1)) := Lib.hid ⟨d, rfl, HI.out, permIn_refl d a (m + 1), (Rot.none d m (m + 1) (by omega)).1⟩
      clear HI
      go_loopg [17] (m - i) (fun gk vk wx => ∃ k : Nat, vk = .int .i64 k ∧ k - i ≤ gk ∧ i ≤ k ∧ k ≤ m ∧ Hid (∃ dk : Array α, dk.size = d.size ∧ SW enc w0 blk off dk wx ∧ PermIn a (m + 1) d dk ∧ Rot d dk k m (m + 1)))
      case atStart => exact ⟨m, rfl, by omega, by omega, by omega, HS⟩
      case round =>
        clear HS
        obtain ⟨k, rfl, hgk, hak, hki, HI⟩ := hrel
        by_cases hlt2 : i < k
        · obtain ⟨dk, hdk, S1, hp, hr⟩ := HI.out
          obtain ⟨q, hq⟩ : ∃ q, k = q + 1 := ⟨k - 1, by omega⟩
          have hk1 : k < dk.size := by omega
          have hq1 : q < dk.size := by omega
          have eq1 : (k : Int) - 1 = (q : Int) := by omega
          have rq1 : IntKind.i64.wrap (q : Int) = (q : Int) := by rw [IntKind.wrap_i64]; omega
          have bk : (k : Int) < (d.size : Int) := by omega
          have bq : (q : Int) < (d.size : Int) := by omega
          have HN : Hid (∀ wx, SW enc w0 blk off (swp dk k q) wx → ∃ dk : Array α, dk.size = d.size ∧ SW enc w0 blk off dk wx ∧ PermIn a (m + 1) d dk ∧ Rot d dk q m (m + 1)) := Lib.hid fun wx hx =>
            ⟨_, by rw [swp_size]; exact hdk, hx, permIn_trans _ _ _ a (m + 1) hp (swp_permIn _ a (m + 1) k q (by omega) (by omega) (by omega) (by omega) (by omega)), by
              rw [hq] at hr ⊢
              exact Rot.down hr (by omega) (by omega)⟩
          have hds : dk.size = d0.size := by rw [hdk, HD.out]
          have c1 := S1.c1 R hds k hk1
          have c2 := S1.c1 R hds q hq1
          have f1 := S1.f1 R hds k hk1
          have f2 := S1.f1 R hds q hq1
          obtain ⟨x, hx⟩ : ∃ x, dk[k]! = x := ⟨_, rfl⟩
          obtain ⟨y, hy⟩ : ∃ y, dk[q]! = y := ⟨_, rfl⟩
          have S3 : Hid (SW enc w0 blk off (swp dk k q) ((wr.setCell ⟨blk, off + k, none⟩ (enc y)).setCell ⟨blk, off + q, none⟩ (enc x)).drew) := by
            rw [← hx, ← hy]
            exact S1.swapped R k q hk1 hq1
          obtain ⟨u, c3⟩ := S1.c2 R hds k q hk1 hq1 (enc y)
          rw [hx] at c1
          rw [hy] at c2
          have hq2 : q + 1 = k := hq.symm
          clear hx hy hr hp S1 HI hk1 hq1 hds hdk hq
          go_wp2_with fail
          go_big_region_o
          clear c1 c2 c3 f1 f2
          generalize ((wr.setCell ⟨blk, off + k, none⟩ (enc y)).setCell ⟨blk, off + q, none⟩ (enc x)).drew = w3 at S3 ⊢
          go_wp2
          go_roundg (q - i)
          case measure => omega
          case rel => exact ⟨q, by first | rfl | go_num | (congr 1), Nat.le_refl _, by omega, by omega, Lib.hid (HN.out _ S3.out)⟩
        · obtain rfl : k = i := by omega
          obtain ⟨dk, hdk, S1, hp, hr⟩ := HI.out
          have HZ := Lib.hid (HPost.out wr dk S1 (HKP.out dk hp hr) (HUP.out dk hr))
          clear hdk S1 hp hr HI HUP HKP HPost
          go_wp2
          go_end0
          exact HZ.out
end Go.Proofs.YtjlkjebmilfgoaaGreat
