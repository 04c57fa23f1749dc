/- The library's stable sort: one number put among those behind it, or ahead of it. -/
import Derived.Test.YtjbohidkjlnalaaTurnR
namespace Go.Proofs.Ytjbohidkjlnalaa
open Go.Shelf Go.RowKit Go.Lib Go.Sort
variable {α : Type} [Inhabited α]

theorem Rot.none (d : Array α) (m b : Nat) (h : m ≤ b) : Rot d d m m b ∧ Rot d d m b b := by
  refine ⟨fun x => ?_, fun x => ?_⟩
  · by_cases h1 : m ≤ x ∧ x < m + (b - m)
    · rw [if_pos h1]; congr 1; omega
    · rw [if_neg h1, if_neg (by omega)]
  · rw [if_neg (by omega)]
    by_cases h1 : m + (b - b) ≤ x ∧ x < b
    · rw [if_pos h1]; congr 1; omega
    · rw [if_neg h1]
theorem Rot.up {d d' : Array α} {a n : Nat} (h : Rot d d' a (a + 1) (a + 1 + n)) (hs : a + n + 1 < d'.size) : Rot d (swp d' (a + n) (a + n + 1)) a (a + 1) (a + 1 + (n + 1)) := by
  intro x
  rw [swp_at _ _ _ _ (by omega) hs (by omega), h, h, h]
  by_cases h1 : x = a + n
  · rw [if_pos h1, if_neg (by omega), if_neg (by omega), if_pos (by omega)]; congr 1; omega
  · rw [if_neg h1]
    by_cases h2 : x = a + n + 1
    · rw [if_pos h2, if_neg (by omega), if_pos (by omega), if_neg (by omega), if_pos (by omega)]; congr 1; omega
    · rw [if_neg h2]
      by_cases h3 : a ≤ x ∧ x < a + n
      · rw [if_pos (by omega), if_pos (by omega)]
      · rw [if_neg (by omega), if_neg (by omega), if_neg (by omega), if_neg (by omega)]
theorem Rot.down {d d' : Array α} {m k : Nat} (h : Rot d d' (k + 1) m (m + 1)) (hk : k + 1 ≤ m) (hs : k + 1 < d'.size) : Rot d (swp d' (k + 1) k) k m (m + 1) := by
  intro x
  rw [swp_at _ _ _ _ (by omega) (by omega) (by omega), h, h, h]
  by_cases h1 : x = k + 1
  · rw [if_pos h1, if_neg (by omega), if_neg (by omega), if_neg (by omega), if_pos (by omega)]; congr 1; omega
  · rw [if_neg h1]
    by_cases h2 : x = k
    · rw [if_pos h2, if_pos (by omega), if_pos (by omega)]; congr 1; omega
    · rw [if_neg h2]
      by_cases h3 : k + 2 ≤ x ∧ x < m + 1
      · rw [if_neg (by omega), if_pos (by omega), if_neg (by omega), if_pos (by omega)]
      · rw [if_neg (by omega), if_neg (by omega), if_neg (by omega), if_neg (by omega)]
variable {lt : α → α → Bool}
theorem put_up (hS : SWO lt) {a i b : Nat} {d d' : Array α} (hai : a + 1 ≤ i) (hib : i ≤ b) (h2 : SortedIn lt (a + 1) b d) (hlo : i = a + 1 ∨ lt d[i - 1]! d[a]! = true) (hhi : i = b ∨ lt d[i]! d[a]! = false) (hr : Rot d d' a (a + 1) i) : SortedIn lt a b d' := by
  have h1 : SortedIn lt a (a + 1) d := fun p q hp hpq hq => by omega
  obtain ⟨_, q2, q3, q4, q5⟩ := parted (mid := i - 1) (s := a) (e := i) hS (by omega) (by omega) (by omega) (by omega) (by omega) h1 h2 (.inl rfl) (hlo.elim (fun h => .inr (.inl h)) (fun h => .inr (.inr (hS.asymmA h)))) hr
  refine sjoin q2 (sjoin q3 q4 fun p q hp hp2 hq hq2 => ?_) q5
  rcases hhi with h | h
  · omega
  · rw [hr q, hr p, if_neg (by omega), if_neg (by omega), if_neg (by omega), if_pos (by omega)]
    have e : p + (a + 1) - i = a := by omega
    rw [e]
    exact hS.ntrans _ _ _ (sle hS h2 i q (by omega) hq hq2) h
theorem put_down (hS : SWO lt) {a i m : Nat} {d d' : Array α} (hai : a ≤ i) (him : i ≤ m) (h1 : SortedIn lt a m d) (hlo : i = a ∨ lt d[m]! d[i - 1]! = false) (hhi : i = m ∨ lt d[m]! d[i]! = true) (hr : Rot d d' i m (m + 1)) : SortedIn lt a (m + 1) d' := by
  have h2 : SortedIn lt m (m + 1) d := fun p q hp hpq hq => by omega
  obtain ⟨q1, q2, q3, _, q5⟩ := parted (mid := i + 1) (s := i) (e := m + 1) (b := m + 1) hS hai him (by omega) (by omega) (by omega) h1 h2 (.inr (.inl rfl)) (by
    rcases hhi with h | h
    · exact .inl h
    · refine .inr (.inr ?_)
      rw [Nat.add_sub_cancel]
      exact hS.asymmA h) hr
  refine sjoin (sjoin q1 q2 fun p q hp hp2 hq hq2 => ?_) q3 q5
  rcases hlo with h | h
  · omega
  · obtain rfl : q = i := by omega
    rw [hr q, hr p, if_pos (by omega), if_neg (by omega), if_neg (by omega)]
    have e : q + m - q = m := by omega
    rw [e]
    exact hS.ntrans _ _ _ h (sle hS h1 p (q - 1) hp (by omega) (by omega))

/-- What a call of a merge leaves: the same numbers, in order. -/
def Merged (enc : α → Value) (cf : α → α → Int) (blk off : Nat) (w0 : World) (a b : Nat) (d : Array α) (e : Ending) (w' : World) : Prop :=
  e = .returned (.tuple #[]) ∧ ∃ d', SW enc w0 blk off d' w' ∧ PermIn a b d d' ∧ SortedIn (ltOf cf) a b d'

/-- Where a search by halves stands. -/
def HalfAt (p : Nat → Bool) (lo hi i j : Nat) : Prop := lo ≤ i ∧ i ≤ j ∧ j ≤ hi ∧ (i = lo ∨ p (i - 1) = true) ∧ (j = hi ∨ p j = false)

set_option maxHeartbeats 8000000 in
set_option maxRecDepth 100000 in
theorem symOne (enc : α → Value) (cf : α → α → Int) (hO : SWO (ltOf cf)) (g : Nat) (cb : Array Value) (blk off cap a b : Nat) (d0 d : Array α) (w0 w : World)
    (eg : ∀ args w, (callFunc g args).run Try.prog w = .ok (.enter g args) w) (hcmp : CmpLays1 Try.prog g cb enc cf blk off d0.size w0) (R : Row1 enc w0 blk off d0) (hs : d0.size = d.size) (S : SW enc w0 blk off d w)
    (hmb : a + 1 < b) (hb : b ≤ d.size) (hsz : d.size < 1152921504606846976) (h2 : SortedIn (ltOf cf) (a + 1) b d) :
    Calls Try.prog 39 #[.slice (some ⟨blk, off, none⟩) d.size cap, .int .i64 a, .int .i64 (a + 1 : Nat), .int .i64 b, .func (.func g) #[] cb] w (Merged enc cf blk off w0 a b d) := by
  have hcl0 := R.hO.cells
  simp only [Value.cells] at hcl0
  have hst := R.hO.store Try.prog
  have mixed := Try.laysSlF20_f38.mixed
  have HC := Lib.hid hcmp
  have HS := Lib.hid S
  have HD := Lib.hid hs
  have HO := Lib.hid hO
  have H2 := Lib.hid h2
  clear S hs hcmp hO h2
  obtain ⟨m, hm⟩ : ∃ m, a + 1 = m := ⟨_, rfl⟩
  rw [hm]
  have e1 : (m : Int) - (a : Int) = 1 := by omega
  go_enter Try.func39, Try.ntmps39
  go_wp2_with fail
  go_loopg [10, 11] (b - m) (fun gk vi vj wx => ∃ i j : Nat, vi = .int .i64 i ∧ vj = .int .i64 j ∧ j - i ≤ gk ∧ i ≤ j ∧ j ≤ b ∧ m ≤ i ∧ Hid (HalfAt (fun h => ltOf cf d[h]! d[a]!) m b i j) ∧ Hid (SW enc w0 blk off d wx))
  case atStart => exact ⟨m, b, rfl, rfl, by omega, by omega, by omega, by omega, Lib.hid ⟨by omega, by omega, by omega, .inl rfl, .inl rfl⟩, HS⟩
  case round =>
    clear HS
    obtain ⟨i, j, rfl, rfl, hg, hij, hjb, hmi, HA, HI⟩ := hrel
    by_cases hlt : i < j
    · obtain ⟨h, hh⟩ : ∃ h, (i + j) / 2 = h := ⟨_, rfl⟩
      have eij : ((i : Int) + (j : Int)) = ((i + j : Nat) : Int) := by omega
      obtain ⟨t, ht⟩ : ∃ t, i + j = t := ⟨_, rfl⟩
      rw [ht] at eij hh
      have ht2 : t < 2305843009213693952 := by omega
      have eh : (t : Int) / 2 = (h : Int) := by omega
      have hhd : (h : Int) < (d.size : Int) := by omega
      have had : (a : Int) < (d.size : Int) := by omega
      have l1 := HI.out.cl R HD.out.symm h (by omega)
      have l2 := HI.out.cl R HD.out.symm a (by omega)
      have hc := HI.out.cmp HC.out HD.out.symm d[h]! d[a]!
      cases hv : ltOf cf d[h]! d[a]! with
      | true =>
        have HV := Lib.hid hv
        have hv2 : cf d[h]! d[a]! < 0 := of_decide_eq_true hv
        obtain ⟨r, hr⟩ : ∃ r, cf d[h]! d[a]! = r := ⟨_, rfl⟩
        obtain ⟨x, hx⟩ : ∃ x, d[h]! = x := ⟨_, rfl⟩
        obtain ⟨y, hy⟩ : ∃ x, d[a]! = x := ⟨_, rfl⟩
        rw [hr] at hc hv2
        rw [hx] at hc l1
        rw [hy] at hc l2
        have hd2 : decide (r < 0) = true := decide_eq_true hv2
        clear hx hy hr hv
        go_wp2_with fail
        go_quiet_grown (first | (go_at_fn g; refine Calls.grown_of (hc _ _)))
        have S2 : Hid (SW enc w0 blk off d (grow (wr.drewN nq) osq)) := HI.out.grown nq osq
        clear l1 l2 hc HI
        generalize grow (wr.drewN nq) osq = w2 at S2 ⊢
        clear nq osq
        go_wp2
        go_roundg (j - (h + 1))
        case measure => omega
        case rel => exact ⟨h + 1, j, by go_num, rfl, Nat.le_refl _, by omega, by omega, by omega, Lib.hid ⟨by omega, by omega, by omega, .inr HV.out, HA.out.2.2.2.2⟩, S2⟩
      | false =>
        have HV := Lib.hid hv
        have hv2 : ¬ cf d[h]! d[a]! < 0 := of_decide_eq_false hv
        obtain ⟨r, hr⟩ : ∃ r, cf d[h]! d[a]! = r := ⟨_, rfl⟩
        obtain ⟨x, hx⟩ : ∃ x, d[h]! = x := ⟨_, rfl⟩
        obtain ⟨y, hy⟩ : ∃ x, d[a]! = x := ⟨_, rfl⟩
        rw [hr] at hc hv2
        rw [hx] at hc l1
        rw [hy] at hc l2
        have hd2 : decide (r < 0) = false := decide_eq_false hv2
        clear hx hy hr hv
        go_wp2_with fail
        go_quiet_grown (first | (go_at_fn g; refine Calls.grown_of (hc _ _)))
        have S2 : Hid (SW enc w0 blk off d (grow (wr.drewN nq) osq)) := HI.out.grown nq osq
        clear l1 l2 hc HI
        generalize grow (wr.drewN nq) osq = w2 at S2 ⊢
        clear nq osq
        go_wp2
        go_roundg (h - i)
        case measure => omega
        case rel => exact ⟨i, h, rfl, by first | rfl | go_num, Nat.le_refl _, by omega, by omega, by omega, Lib.hid ⟨by omega, by omega, by omega, HA.out.2.2.2.1, .inr HV.out⟩, S2⟩
    · obtain rfl : i = j := by omega
      have HUP := Lib.hid fun d' => (put_up (b := b) (d' := d') (i := i) (d := d) (a := a) HO.out (by omega) hjb H2.out (HA.out.2.2.2.1.imp (fun h => by omega) id) HA.out.2.2.2.2)
      clear HA H2
      go_wp2_with fail
      have HS : Hid (∃ dk : Array α, dk.size = d.size ∧ SW enc w0 blk off dk wr ∧ PermIn a b d dk ∧ Rot d dk a (a + 1) (a + 1 + (a - a))) := Lib.hid ⟨d, rfl, HI.out, permIn_refl d a b, by rw [Nat.sub_self]; exact (Rot.none d a (a + 1) (by omega)).2⟩
      clear HI
      go_loopg [13] (i - 1 - a) (fun gk vk wx => ∃ k : Nat, vk = .int .i64 k ∧ i - 1 - k ≤ gk ∧ a ≤ k ∧ k ≤ i - 1 ∧ Hid (∃ dk : Array α, dk.size = d.size ∧ SW enc w0 blk off dk wx ∧ PermIn a b d dk ∧ Rot d dk a (a + 1) (a + 1 + (k - a))))
      case atStart => exact ⟨a, rfl, by omega, by omega, by omega, HS⟩
      case round =>
        clear HS
        obtain ⟨k, rfl, hgk, hak, hki, HI⟩ := hrel
        by_cases hlt2 : k < i - 1
        · obtain ⟨dk, hdk, S1, hp, hr⟩ := HI.out
          obtain ⟨q, hq⟩ : ∃ q, k + 1 = q := ⟨_, rfl⟩
          have hk1 : k < dk.size := by omega
          have hq1 : q < dk.size := by omega
          have eq1 : (k : Int) + 1 = (q : Int) := by omega
          have rq1 : IntKind.i64.wrap (q : Int) = (q : Int) := by rw [IntKind.wrap_i64]; omega
          have bk : (k : Int) < (d.size : Int) := by omega
          have bq : (q : Int) < (d.size : Int) := by omega
          have ei : (k : Int) < (i : Int) - 1 := by omega
          have HN : Hid (∀ wx, SW enc w0 blk off (swp dk k q) wx → ∃ dk : Array α, dk.size = d.size ∧ SW enc w0 blk off dk wx ∧ PermIn a b d dk ∧ Rot d dk a (a + 1) (a + 1 + (q - a))) := Lib.hid fun wx hx =>
            ⟨_, by rw [swp_size]; exact hdk, hx, permIn_trans _ _ _ a b hp (swp_permIn _ a b k q (by omega) (by omega) (by omega) (by omega) (by omega)), by
              have e1 : k = a + (k - a) := by omega
              have e2 : q = a + (k - a) + 1 := by omega
              have e3 : q - a = k - a + 1 := by omega
              have := Rot.up hr (by omega)
              rw [← e2, ← e1] at this
              rw [e3]
              exact this⟩
          have hds : dk.size = d0.size := by rw [hdk, HD.out]
          have c1 := S1.c1 R hds k hk1
          have c2 := S1.c1 R hds q hq1
          have f1 := S1.f1 R hds k hk1
          have f2 := S1.f1 R hds q hq1
          obtain ⟨x, hx⟩ : ∃ x, dk[k]! = x := ⟨_, rfl⟩
          obtain ⟨y, hy⟩ : ∃ y, dk[q]! = y := ⟨_, rfl⟩
          have S3 : Hid (SW enc w0 blk off (swp dk k q) ((wr.setCell ⟨blk, off + k, none⟩ (enc y)).setCell ⟨blk, off + q, none⟩ (enc x)).drew) := by
            rw [← hx, ← hy]
            exact S1.swapped R k q hk1 hq1
          obtain ⟨u, c3⟩ := S1.c2 R hds k q hk1 hq1 (enc y)
          rw [hx] at c1
          rw [hy] at c2
          clear hx hy hr hp S1 HI hk1 hq1 hds hdk
          go_wp2_with fail
          go_big_region_o
          clear c1 c2 c3 f1 f2
          generalize ((wr.setCell ⟨blk, off + k, none⟩ (enc y)).setCell ⟨blk, off + q, none⟩ (enc x)).drew = w3 at S3 ⊢
          go_wp2
          go_roundg (i - 1 - q)
          case measure => omega
          case rel => exact ⟨q, by first | rfl | go_num | (congr 1), Nat.le_refl _, by omega, by omega, Lib.hid (HN.out _ S3.out)⟩
        · obtain rfl : k = i - 1 := by omega
          have ei : ¬ ((i - 1 : Nat) : Int) < (i : Int) - 1 := by omega
          obtain ⟨dk, hdk, S1, hp, hr⟩ := HI.out
          have e3 : a + 1 + (i - 1 - a) = i := by omega
          rw [e3] at hr
          have HZ := Lib.hid (show Merged enc cf blk off w0 a b d (.returned (.tuple #[])) wr from ⟨rfl, dk, S1, hp, HUP.out dk hr⟩)
          clear hdk S1 hp hr HI HUP
          go_wp2
          go_end0
          exact HZ.out
end Go.Proofs.Ytjbohidkjlnalaa
