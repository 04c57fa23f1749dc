/- Layer 6: how deep the leaves of a tree of pairs stand, and Free, in the program. -/
import Derived.Test.YtjbohidkjlnalaaJoin
namespace Go.Proofs.Ytjbohidkjlnalaa
open Go.RowKit

/-- Where joining stands: so many steps are still to come. -/
structure TreeAt (w : World) (W : List Nat) (n N F U k : Nat) (gs cs p q : Nat) (s ab : List Nat) (wx : World) : Prop where
  fo : For wx F gs U n N p q cs s ab
  wood : Wood W n s p q ab
  left : s.length + k = N
  sum : (s.drop n).sum + hsum k (rem W s p q) = hsum (n - 1) W
  gap : w.heap.size ≤ F ∧ w.heap.size ≤ gs ∧ w.heap.size ≤ U
  new : Only (fun _ => False) w wx
  tot : (rem W s p q).sum = W.sum
  low : ∀ i, ln s i ≤ W.sum
theorem rem_start (W : List Nat) (n : Nat) (hn : W.length = n) : rem W W 0 n = W := by
  unfold rem
  have e : W.drop n = [] := List.drop_eq_nil_of_le (by omega)
  rw [e]
  simp [mrg]
theorem TreeAt.next {w wx wy : World} {W : List Nat} {n N F U k gs cs p q i j p2 q2 gs2 cs2 pm qm : Nat} {s ab : List Nat} (h : TreeAt w W n N F U (k + 1) gs cs p q s ab wx) (hW : Rise W) (hN : N = 2 * n - 1)
    (hf : For wy F gs2 U n N p2 q2 cs2 (s ++ [ln s i + ln s j]) ((ab.set i s.length).set j s.length)) (ho : Only (fun k => k = F ∨ k = gs ∨ k = U) wx wy) (hg : gs2 = gs ∨ wx.heap.size ≤ gs2) (h1 : Takes W s n p q i pm qm) (h2 : Takes W s n pm qm j p2 q2) :
    TreeAt w W n N F U k gs2 cs2 p2 q2 (s ++ [ln s i + ln s j]) ((ab.set i s.length).set j s.length) wy := by
  have e1 := h1.one
  have e2 := h2.one
  have hl := h.left
  have hij : i ≠ j := fun e => h2.fresh (e ▸ h1.took)
  have hrem : rem W s p q = ln s i :: ln s j :: rem W s p2 q2 := by rw [h1.rest, h2.rest]
  have hpp := h1.pp
  have hpp2 := h2.pp
  have hqq := h1.qq
  have hqq2 := h2.qq
  have htk : ∀ v, Tk n pm qm v → Tk n p2 q2 v := fun v hv => by unfold Tk at *; omega
  have hnt : ¬ Tk n p q j := fun hh => h2.fresh (by unfold Tk at *; omega)
  obtain ⟨w1, w2, w3⟩ := h.wood.join hW (by omega) (by omega) h2.pn (by omega) h2.qs (by omega) h1.fresh hnt hij (htk i h1.took) h2.took (fun v hv => by
    rcases h2.all v hv with h5 | h5
    · rcases h1.all v h5 with h6 | h6
      · exact .inl h6
      · exact .inr (.inl h6)
    · exact .inr (.inr h5)) hrem
  have hsz := h.new.size
  refine ⟨hf, w1, by rw [List.length_append, List.length_singleton]; omega, ?_, ⟨h.gap.1, by have := h.gap.2.1; omega, h.gap.2.2⟩, h.new.andThen ho fun k hk => ?_, ?_, fun v => ?_⟩
  · have h3 := h.sum
    rw [hsum, w3, ← w2] at h3
    have hns : n ≤ s.length := Nat.le_trans h.wood.nq h.wood.qs
    rw [List.drop_append_of_le_length hns, List.sum_append_nat]
    simp
    omega
  · have := h.gap
    rcases hk with rfl | rfl | rfl <;> exact .inr (by omega)
  · rw [w2, ← h.tot, hrem]
    unfold hstep
    rw [(mrg_perm _ _).sum_nat, List.sum_append_nat]
    simp [ln]
    omega
  · have ht := h.tot
    rw [hrem] at ht
    simp only [List.sum_cons] at ht
    rcases Nat.lt_or_ge v s.length with h5 | h5
    · have : ln (s ++ [ln s i + ln s j]) v = ln s v := by simp [ln, List.getElem?_append_left h5]
      rw [this]
      exact h.low v
    · rcases Nat.lt_or_ge v (s.length + 1) with h6 | h6
      · obtain rfl : v = s.length := by omega
        have : ln (s ++ [ln s i + ln s j]) s.length = ln s i + ln s j := by simp [ln]
        omega
      · have : ln (s ++ [ln s i + ln s j]) v = 0 := by
          unfold ln
          rw [List.getD_eq_getElem?_getD, List.getElem?_eq_none (by simp; omega)]
          rfl
        omega

def DPost (w : World) (W : List Nat) (n : Nat) (e : Ending) (w' : World) : Prop := ∃ A cp dl, e = .returned (.slice A n cp) ∧ Made 3 w A n cp (ints dl) w' ∧ dl.length = n ∧ ((n < 2 ∧ dl = List.replicate n 0) ∨ (2 ≤ n ∧ ∃ s ab D q, Wood W n s n q ab ∧ q + 1 = s.length ∧ s.length = 2 * n - 1 ∧ Deep n q ab D ∧ n ≤ D.length ∧ (s.drop n).sum = hsum (n - 1) W ∧ dl = D.take n))

set_option maxHeartbeats 4000000 in
theorem depths_few (A : Option Addr) (n k : Nat) (W : List Nat) (w : World) (hn2 : n < 2) : Calls Try.prog 25 #[.slice A n k] w (DPost w W n) := by
  have hmk := run_make_row Try.underlying22 info3 (by omega) n (by omega) w
  have HST : Hid (DPost w W n (.returned (.slice (some ⟨w.heap.size, 0, none⟩) n n)) (w.alloc (.cells (List.replicate n (.int .i64 0)).toArray 3))) := Lib.hid ⟨_, n, List.replicate n 0, rfl, by
    rw [← ints_zeros]
    exact zeros_made n (by omega), by simp, .inl ⟨hn2, rfl⟩⟩
  go_enter Try.func25, Try.ntmps25
  go_wp2
  go_ret
  exact HST.out

theorem Low.sum {W : List Nat} (h : Low W) : W.sum ≤ W.length * 1048576 := by
  have e := take_sum W W.length (Nat.le_refl _)
  rw [List.take_length] at e
  rw [e]
  exact sumTo_le _ fun i _ => ln_le h i
theorem tree_start {w wx : World} {W : List Nat} {n N F U gs cc : Nat} (hn : W.length = n) (hn2 : 2 ≤ n) (hN : N = 2 * n - 1) (hf : For wx F gs U n N 0 n cc W (List.replicate N 0)) (h1 : w.heap.size ≤ F ∧ w.heap.size ≤ gs ∧ w.heap.size ≤ U) (ho : Only (fun _ => False) w wx) : TreeAt w W n N F U (n - 1) gs cc 0 n W (List.replicate N 0) wx := by
  refine ⟨hf, by rw [hN]; exact Wood.start hn, by omega, ?_, h1, ho, by rw [rem_start W n hn], fun i => ?_⟩
  · rw [List.drop_eq_nil_of_le (by omega), rem_start W n hn]
    simp
  · rcases Nat.lt_or_ge i W.length with h2 | h2
    · have h3 := take_sum W W.length (Nat.le_refl _)
      rw [List.take_length] at h3
      rw [h3]
      have key : ∀ m, i < m → ln W i ≤ sumTo m (ln W) := by
        intro m
        induction m with
        | zero => intro h; omega
        | succ m ih =>
          intro h
          rw [sumTo]
          rcases Nat.lt_or_ge i m with h4 | h4
          · have := ih h4; omega
          · obtain rfl : i = m := by omega
            omega
      exact key _ h2
    · simp [ln, h2]
theorem start_a {w w5 : World} {W : List Nat} {n N gs cc : Nat} {A : Option Addr} (hn : W.length = n) (hn2 : 2 ≤ n) (hn40 : n ≤ 40) (hN : N = 2 * n - 1) (hm : Made 3 w.drew A n cc (ints W) w5) (hA : A = some ⟨gs, 0, none⟩) :
    TreeAt w W n N (w5.heap.size + 1) w5.heap.size (n - 1) gs cc 0 n W (List.replicate N 0) ((w5.alloc (.cells (Array.replicate N (.int .i64 0)) 3)).alloc (.cells #[.int .i64 (n : Nat), .slice A n cc, .slice (some ⟨w5.heap.size, 0, none⟩) N N, .int .i64 0, .int .i64 (n : Nat)] 50)) := by
  subst hA
  have hgs : gs < w5.heap.size := hm.1.lies gs ⟨_, rfl, rfl⟩
  have hg2 : w.heap.size ≤ gs := hm.2.2 gs ⟨_, rfl, rfl⟩
  have ho : Only (fun _ => False) w w5 := ⟨hm.2.1.os, hm.2.1.tape, hm.2.1.output, hm.2.1.size, hm.2.1.block⟩
  have hsz : w.heap.size ≤ w5.heap.size := ho.size
  have e1 : (w5.alloc (.cells (Array.replicate N (Value.int .i64 0)) 3)).heap.size = w5.heap.size + 1 := by simp
  have e2 : Array.replicate N (Value.int .i64 0) = (List.replicate N (Value.int .i64 0)).toArray := by simp
  refine tree_start hn hn2 hN ⟨?_, ?_, ?_, by omega, by omega, by omega⟩ ⟨by omega, hg2, hsz⟩ ((ho.alloc _).alloc _)
  · have := Is.new (w5.alloc (.cells (Array.replicate N (Value.int .i64 0)) 3)) 50 (fcells n (some ⟨gs, 0, none⟩) n cc w5.heap.size N 0 n)
    rw [e1] at this
    rw [hn]
    exact this
  · rw [hn]
    exact (hm.1.alloc _).alloc _
  · rw [e2, ← ints_zeros]
    exact (zeros_made (e := 3) (w := w5) (kd := .i64) N (by omega)).1.alloc _
theorem start_b {w w5 : World} {W : List Nat} {n N gs cc : Nat} {A : Option Addr} (hn : W.length = n) (hn2 : 2 ≤ n) (hn40 : n ≤ 40) (hN : N = 2 * n - 1) (hm : Made 3 (w.alloc (.cells (Array.replicate N (.int .i64 0)) 3)).drew A n cc (ints W) w5) (hA : A = some ⟨gs, 0, none⟩) :
    TreeAt w W n N w5.heap.size w.heap.size (n - 1) gs cc 0 n W (List.replicate N 0) (w5.alloc (.cells #[.int .i64 (n : Nat), .slice A n cc, .slice (some ⟨w.heap.size, 0, none⟩) N N, .int .i64 0, .int .i64 (n : Nat)] 50)) := by
  subst hA
  have hgs : gs < w5.heap.size := hm.1.lies gs ⟨_, rfl, rfl⟩
  have hg2 : (w.alloc (.cells (Array.replicate N (Value.int .i64 0)) 3)).heap.size ≤ gs := hm.2.2 gs ⟨_, rfl, rfl⟩
  have e1 : (w.alloc (.cells (Array.replicate N (Value.int .i64 0)) 3)).heap.size = w.heap.size + 1 := by simp
  rw [e1] at hg2
  have e2 : Array.replicate N (Value.int .i64 0) = (List.replicate N (Value.int .i64 0)).toArray := by simp
  have ho : Only (fun _ => False) w w5 := (((Only.refl _ w).alloc _).drew).trans hm.2.1
  refine tree_start hn hn2 hN ⟨?_, ?_, ?_, by omega, by omega, by omega⟩ ⟨by omega, by omega, Nat.le_refl _⟩ (ho.alloc _)
  · rw [hn]
    exact Is.new w5 50 (fcells n (some ⟨gs, 0, none⟩) n cc w.heap.size N 0 n)
  · rw [hn]
    exact hm.1.alloc _
  · have h1 := (zeros_made (e := 3) (w := w) (kd := .i64) N (by omega)).1
    rw [← e2, ints_zeros] at h1
    exact ((h1.drew.only hm.2.1 (fun _ _ f => f))).alloc _
/-- The depths from r on are laid. -/
def DeepTo (q N : Nat) (ab dl : List Nat) (r : Nat) : Prop := dl.length = N ∧ ln dl q = 0 ∧ (∀ v, r ≤ v → v < q → ln dl v = ln dl (ln ab v) + 1) ∧ ∀ i, ln dl i + i ≤ q ∨ ln dl i = 0
theorem DeepTo.start (q N : Nat) (ab : List Nat) : DeepTo q N ab (List.replicate N 0) q := by
  have hz : ∀ i, ln (List.replicate N 0) i = 0 := fun i => by simp [ln, List.getElem?_replicate]; split <;> rfl
  exact ⟨by simp, hz q, fun v h1 h2 => by omega, fun i => .inr (hz i)⟩
theorem DeepTo.step {q N r : Nat} {ab dl : List Nat} (h : DeepTo q N ab dl (r + 1)) (hr : r < q) (hq : q < N) (hup : ∀ v, v < q → v < ln ab v ∧ ln ab v ≤ q) : DeepTo q N ab (dl.set r (ln dl (ln ab r) + 1)) r := by
  obtain ⟨h1, h2, h3, h4⟩ := h
  have hs : ∀ v, ln (dl.set r (ln dl (ln ab r) + 1)) v = if v = r then ln dl (ln ab r) + 1 else ln dl v := fun v => ln_set dl r _ v (by omega)
  have hur := hup r hr
  refine ⟨by simp [h1], by rw [hs, if_neg (by omega)]; exact h2, fun v hv1 hv2 => ?_, fun i => ?_⟩
  · have hv := hup v hv2
    rw [hs v, hs (ln ab v), if_neg (show ¬ ln ab v = r by omega)]
    split
    · rename_i e; rw [e]
    · exact h3 v (by omega) hv2
  · rw [hs]
    split
    · rename_i e
      subst e
      rcases h4 (ln ab i) with h5 | h5 <;> exact .inl (by omega)
    · exact h4 i

theorem Made.some {w wx : World} {A : Option Addr} {n c : Nat} {vs : List Value} (h : Made 3 w A n c vs wx) (hn : 0 < n) : ∃ g, A = some ⟨g, 0, none⟩ := by
  obtain ⟨_, ⟨_, h0, _⟩ | ⟨g, _, _, hg, _⟩⟩ := h.1
  · omega
  · exact ⟨g, hg⟩

set_option maxHeartbeats 8000000 in
theorem depths (A : Option Addr) (n k B : Nat) (W : List Nat) (w : World) (h : See w B A (ints W)) (hn : W.length = n) (hn2 : 2 ≤ n) (hn40 : n ≤ 40) (hW : Rise W) (hl : Low W) : Calls Try.prog 25 #[.slice A n k] w (DPost w W n) := by
  obtain ⟨T, hT⟩ : ∃ T, 2 * n = T := ⟨_, rfl⟩
  obtain ⟨N, hN⟩ : ∃ N, T - 1 = N := ⟨_, rfl⟩
  have eT : 2 * (n : Int) = (T : Int) := by omega
  have eN : (T : Int) - 1 = (N : Int) := by omega
  have rT : IntKind.i64.wrap (T : Int) = (T : Int) := by rw [IntKind.wrap_i64]; omega
  have HS := Lib.hid h
  have HN := Lib.hid hn
  have HW := Lib.hid hW
  have HL := Lib.hid hl
  have dn : decide ((n : Int) < 2) = false := by simp; omega
  have hmk : ∀ W' : World, (Instr.makeSlice 22 (.int .i64 (N : Int)) (.int .i64 (N : Int))).run Try.prog W' = .ok (.slice (some ⟨W'.heap.size, 0, none⟩) N N) (W'.alloc (.cells (List.replicate N (.int .i64 0)).toArray 3)) := fun W' => run_make_row Try.underlying22 info3 (by omega) N (by omega) W'
  have CL : Hid (∀ W', Only (fun _ => False) w W' → Calls Try.prog 31 #[.slice A n k] W' (ClonePost W' (ints W) n)) := Lib.hid fun W' ho => clone A n k B (ints W) W' (h.new ho) (by rw [ints_length]; exact hn) (by omega) (ints_one W)
  have OA : Hid (∀ o, Only (fun _ => False) w (w.alloc o).drew) := Lib.hid fun o => ((Only.refl _ w).alloc o).drew
  have OB : Hid (Only (fun _ => False) w w.drew) := Lib.hid (Only.refl _ w).drew
  have mixed := Try.laysSlF20_f38.mixed
  clear h hn hW hl
  go_enter Try.func25, Try.ntmps25
  go_upto_region 5 with fail
  go_cut [5] (fun v wx => ∃ F gs cs U : Nat, v = .pointer (some ⟨F, 0, none⟩) ∧ Hid (TreeAt w W n N F U (n - 1) gs cs 0 n W (List.replicate N 0) wx))
  case first =>
    go_region_law (first
      | (go_simp
         go_at_call 31
         refine (CL.out _ (by first | exact OB.out | exact OA.out _)).mono ?_
         rintro e w5 ⟨Ac, cc, rfl, hm5⟩
         have HM5 := Lib.hid hm5
         clear hm5))
    · obtain ⟨gs, hgs⟩ := HM5.out.some (by omega)
      have HZ := Lib.hid (start_a (N := N) HN.out hn2 hn40 (by omega) HM5.out hgs)
      clear hgs HM5 CL OA OB hmk
      go_wp2_with fail
      go_meet
      exact ⟨_, gs, cc, _, rfl, HZ⟩
    · obtain ⟨gs, hgs⟩ := HM5.out.some (by omega)
      have HZ := Lib.hid (start_b (N := N) HN.out hn2 hn40 (by omega) HM5.out hgs)
      clear hgs HM5 CL OA OB hmk
      go_wp2_with fail
      go_meet
      exact ⟨_, gs, cc, _, rfl, HZ⟩
  case rest =>
    obtain ⟨F, gs, cs, U, rfl, HST⟩ := hcut
    have HSS : Hid (∃ gs cs p q s ab, TreeAt w W n N F U (n - 1) gs cs p q s ab wc) := Lib.hid ⟨_, _, _, _, _, _, HST.out⟩
    have hsum40 := Low.sum HL.out
    rw [HN.out] at hsum40
    clear HST CL OA OB
    clear gs cs
    go_wp2_with fail
    go_loopg [25] (n - 1) (fun gk _v wx => Hid (∃ gs cs p q s ab, TreeAt w W n N F U gk gs cs p q s ab wx))
    case atStart => exact HSS
    case round =>
      clear HSS
      obtain ⟨gs, cs, p, q, s, ab, ht⟩ := hrel.out
      have c1 := ht.fo.blk.cell 1 (v := .slice (some ⟨gs, 0, none⟩) s.length cs) rfl
      have hleft := ht.left
      obtain ⟨L, hL⟩ : ∃ L, s.length = L := ⟨_, rfl⟩
      rw [hL] at c1 hleft
      have HT := Lib.hid ht
      by_cases hk : 0 < gk
      · obtain ⟨k', hk'⟩ : ∃ k', gk = k' + 1 := ⟨gk - 1, by omega⟩
        have HJ : Hid (Calls Try.prog 32 #[.pointer (some ⟨F, 0, none⟩)] wr (JoinPost wr F gs U n N W s ab p q)) := Lib.hid (by
          have hw := ht.wood
          have h1 := hw.num
          have h2 := hw.nq
          have h3 := hw.qs
          have h4 := hw.pn
          exact join F gs U n N p q cs W s ab wr ht.fo HN.out hw.leaf hw.pn hw.nq hw.qs (by omega) (by omega) (by rw [hw.room]; omega) (by omega) (fun i => by have := ht.low i; omega))
        have HX : Hid (∀ w', JoinPost wr F gs U n N W s ab p q (.returned (.tuple #[])) w' → ∃ gs cs p q s ab, TreeAt w W n N F U k' gs cs p q s ab w') := Lib.hid fun w' h => by
          obtain ⟨_, i, j, p2, q2, gs2, cs2, pm, qm, hf, ho, hg, h1, h2⟩ := h
          have ht2 := HT.out
          rw [hk'] at ht2
          exact ⟨_, _, _, _, _, _, ht2.next HW.out (by omega) hf ho hg h1 h2⟩
        clear ht hrel
        go_wp2_with fail
        refine HJ.out.mono ?_
        intro e w6 h6
        obtain rfl : e = .returned (.tuple #[]) := h6.1
        have H6 := Lib.hid (HX.out w6 h6)
        clear h6 HJ HX HT
        go_wp2_with fail
        go_roundg k'
        case measure => omega
        case rel => exact H6
      · obtain rfl : gk = 0 := by omega
        have hw := ht.wood
        have hdone := hw.done (by omega) hn2
        obtain ⟨rfl, hq⟩ := hdone
        have hsum : (s.drop p).sum = hsum (p - 1) W := by have := ht.sum; rw [hsum_zero, Nat.add_zero] at this; exact this
        have hup : ∀ v, v < q → v < ln ab v ∧ ln ab v ≤ q := fun v hv => by
          have := hw.up v (by unfold Tk; have := hw.nq; omega)
          omega
        have habl := hw.room
        have HW2 := Lib.hid hw
        have HSm := Lib.hid hsum
        have HUp := Lib.hid hup
        have HABL := Lib.hid habl
        have hqN : q + 1 = N := by omega
        obtain ⟨N2, hN2⟩ : ∃ N2, N - 2 = N2 := ⟨_, rfl⟩
        have eN2 : (N : Int) - 2 = (N2 : Int) := by omega
        have hmk2 := hmk wr
        have HM0 : Hid (Made 3 w (some ⟨wr.heap.size, 0, none⟩) N N (ints (List.replicate N 0)) (wr.alloc (.cells (List.replicate N (.int .i64 0)).toArray 3))) := Lib.hid (by
          have h1 := zeros_made (e := 3) (w := wr) (kd := .i64) N (by omega)
          rw [← ints_zeros]
          exact ⟨h1.1, ht.new.trans h1.2.1, fun j hj => Nat.le_trans ht.new.size (h1.2.2 j hj)⟩)
        have HF0 : Hid (For (wr.alloc (.cells (List.replicate N (.int .i64 0)).toArray 3)) F gs U p N p q cs s ab) := Lib.hid (ht.fo.quiet ((Only.refl (fun _ => False) wr).alloc _) id id id)
        have hFl : F < wr.heap.size := ht.fo.blk.lt
        have hgl : gs < wr.heap.size := ht.fo.sums.lies gs ⟨_, rfl, rfl⟩
        have hUl : U < wr.heap.size := ht.fo.above.lies U ⟨_, rfl, rfl⟩
        obtain ⟨D, hD⟩ : ∃ D, wr.heap.size = D := ⟨_, rfl⟩
        have HD0 := Lib.hid (DeepTo.start q N ab)
        rw [hD] at HM0 hFl hgl hUl
        have ed : ¬ (L : Int) < (N : Int) := by omega
        clear ht hrel hw hsum hup habl HT
        go_wp2_with fail
        obtain ⟨w7, hw7⟩ : ∃ w7, wr.alloc (.cells (List.replicate N (Value.int .i64 0)).toArray 3) = w7 := ⟨_, rfl⟩
        have hw8 : wr.alloc (.cells (Array.replicate N (Value.int .i64 0)) 3) = w7 := by rw [← hw7]; simp
        rw [hw7] at HM0 HF0
        rw [hw8]
        try rw [hD]
        clear hw7 hw8 hmk2 hD
        go_loopg [7] (N2 + 1) (fun gk vi wx => ∃ r : Nat, vi = .int .i64 ((r : Int) - 1) ∧ r ≤ gk ∧ r ≤ N2 + 1 ∧ Hid (For wx F gs U p N p q cs s ab) ∧ Hid (∃ dl, DeepTo q N ab dl r ∧ Made 3 w (some ⟨D, 0, none⟩) N N (ints dl) wx))
        case atStart => exact ⟨N2 + 1, by first | rfl | go_num | (congr 1; omega), by omega, by omega, HF0, Lib.hid ⟨_, by rw [show N2 + 1 = q from by omega]; exact HD0.out, HM0.out⟩⟩
        case round =>
          clear HM0 HF0
          obtain ⟨r, rfl, hrg, hrN, HF, HI⟩ := hrel
          obtain ⟨dl, hdt, hmd⟩ := HI.out
          by_cases hr0 : 0 < r
          · obtain ⟨r', hr'⟩ : ∃ r', r' + 1 = r := ⟨r - 1, by omega⟩
            subst hr'
            have er : ((r' + 1 : Nat) : Int) - 1 = (r' : Int) := by omega
            have er2 : (r' : Int) - 1 = ((r' : Int) - 1) := rfl
            have hu := HUp.out r' (by omega)
            have c2 := HF.out.blk.cell 2 (v := .slice (some ⟨U, 0, none⟩) N N) rfl
            obtain ⟨a1, _⟩ := HF.out.above.num r' (by rw [HABL.out]; omega)
            obtain ⟨x1, _⟩ := hmd.at (ln ab r') (by rw [hdt.1]; omega)
            obtain ⟨x2, x3⟩ := hmd.at r' (by rw [hdt.1]; omega)
            have hb := hdt.2.2.2 (ln ab r')
            have hstep := hdt.step (by omega) (by omega) HUp.out
            obtain ⟨t, ht⟩ : ∃ t, ln ab r' = t := ⟨_, rfl⟩
            rw [ht] at a1 x1 hb hstep hu
            obtain ⟨y, hy⟩ : ∃ y, ln dl t = y := ⟨_, rfl⟩
            rw [hy] at x1 hb hstep
            have hy40 : y ≤ 100 := by omega
            have HM2 : Hid (∃ dl, DeepTo q N ab dl r' ∧ Made 3 w (some ⟨D, 0, none⟩) N N (ints dl) (wr.setCell ⟨D, r', none⟩ (.int .i64 ((y : Int) + 1)))) := Lib.hid ⟨_, hstep, by
              rw [← ints_set]
              exact hmd.setAt r' _⟩
            have HF2 : Hid (For (wr.setCell ⟨D, r', none⟩ (.int .i64 ((y : Int) + 1))) F gs U p N p q cs s ab) := Lib.hid (HF.out.quiet (Only.one wr D r' _) (by omega) (by omega) (by omega))
            clear hdt hmd HI hb hstep ht hy HF
            go_wp2_with fail
            go_roundg r'
            case measure => omega
            case rel => exact ⟨r', by first | rfl | go_num, by omega, by omega, HF2, HM2⟩
          · obtain rfl : r = 0 := by omega
            have hl3 : (dl.take p).length = p := by rw [List.length_take, hdt.1]; omega
            have HC := Lib.hid (clone (some ⟨D, 0, none⟩) p N _ (ints (dl.take p)) wr (fun i v hv => by
              have hip : i < p := by
                rcases Nat.lt_or_ge i p with h1 | h1
                · exact h1
                · rw [List.getElem?_eq_none (by rw [ints_length, hl3]; exact h1)] at hv
                  cases hv
              refine hmd.see i v ?_
              rw [← hv]
              simp [ints, hip]) (by rw [ints_length]; exact hl3) (by omega) (ints_one _))
            have HZ : Hid (∀ A c w', Made 3 wr A p c (ints (dl.take p)) w' → DPost w W p (.returned (.slice A p c)) w') := Lib.hid fun A c w' h1 => ⟨A, c, dl.take p, rfl, ⟨h1.1, hmd.2.1.trans h1.2.1, fun j hj => Nat.le_trans hmd.2.1.size (h1.2.2 j hj)⟩, hl3, .inr ⟨hn2, s, ab, dl, q, HW2.out, by omega, by omega, ⟨hdt.2.1, fun v hv => hdt.2.2.1 v (Nat.zero_le _) hv⟩, by rw [hdt.1]; omega, HSm.out, rfl⟩⟩
            clear hdt hmd HI hl3 HF
            go_wp2_with fail
            refine HC.out.mono ?_
            rintro e w9 ⟨A9, c9, rfl, hm9⟩
            have H9 := Lib.hid (HZ.out A9 c9 w9 hm9)
            clear hm9 HC HZ
            go_wp2
            go_ret
            exact H9.out
end Go.Proofs.Ytjbohidkjlnalaa
