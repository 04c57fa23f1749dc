/- The library's stable sort: the last number put among those ahead of it. -/
import Derived.Test.YtjbohidkjlnalaaOne
namespace Go.Proofs.Ytjbohidkjlnalaa
open Go.Shelf Go.RowKit Go.Lib Go.Sort
variable {α : Type} [Inhabited α]

set_option maxHeartbeats 8000000 in
set_option maxRecDepth 100000 in
theorem symTwo (enc : α → Value) (cf : α → α → Int) (hO : SWO (ltOf cf)) (g : Nat) (cb : Array Value) (blk off cap a m : Nat) (d0 d : Array α) (w0 w : World)
    (eg : ∀ args w, (callFunc g args).run Try.prog w = .ok (.enter g args) w) (hcmp : CmpLays1 Try.prog g cb enc cf blk off d0.size w0) (R : Row1 enc w0 blk off d0) (hs : d0.size = d.size) (S : SW enc w0 blk off d w)
    (ham : a + 1 < m) (hb : m + 1 ≤ d.size) (hsz : d.size < 1152921504606846976) (h1 : SortedIn (ltOf cf) a m d) :
    Calls Try.prog 39 #[.slice (some ⟨blk, off, none⟩) d.size cap, .int .i64 a, .int .i64 m, .int .i64 (m + 1 : Nat), .func (.func g) #[] cb] w (Merged enc cf blk off w0 a (m + 1) d) := by
  have hcl0 := R.hO.cells
  simp only [Value.cells] at hcl0
  have hst := R.hO.store Try.prog
  have mixed := Try.laysSlF20_f38.mixed
  have HC := Lib.hid hcmp
  have HS := Lib.hid S
  have HD := Lib.hid hs
  have HO := Lib.hid hO
  have H1 := Lib.hid h1
  clear S hs hcmp hO h1
  have HPost : Hid (∀ wx dk, SW enc w0 blk off dk wx → PermIn a (m + 1) d dk → SortedIn (ltOf cf) a (m + 1) dk → Merged enc cf blk off w0 a (m + 1) d (.returned (.tuple #[])) wx) := Lib.hid fun wx dk h1 h2 h3 => ⟨rfl, dk, h1, h2, h3⟩
  generalize hPost : Merged enc cf blk off w0 a (m + 1) d = Post at HPost ⊢
  clear hPost
  obtain ⟨b, hbm⟩ : ∃ b, m + 1 = b := ⟨_, rfl⟩
  rw [hbm]
  obtain ⟨q0, hq0⟩ : ∃ q0, m - a = q0 := ⟨_, rfl⟩
  have e0 : (m : Int) - (a : Int) = (q0 : Int) := by omega
  have e00 : ¬ (q0 : Int) = 1 := by omega
  have e01 : ((q0 : Int) == 1) = false := by simpa using e00
  have e1 : (b : Int) - (m : Int) = 1 := by omega
  go_enter Try.func39, Try.ntmps39
  go_wp2_with fail
  go_loopg [14, 15] (m - a) (fun gk vi vj wx => ∃ i j : Nat, vi = .int .i64 i ∧ vj = .int .i64 j ∧ j - i ≤ gk ∧ i ≤ j ∧ j ≤ m ∧ a ≤ i ∧ Hid (HalfAt (fun h => !ltOf cf d[m]! d[h]!) a m i j) ∧ Hid (SW enc w0 blk off d wx))
  case atStart => exact ⟨a, m, rfl, rfl, by omega, by omega, by omega, by omega, Lib.hid ⟨by omega, by omega, by omega, .inl rfl, .inl rfl⟩, HS⟩
  case round =>
    clear HS
    obtain ⟨i, j, rfl, rfl, hg, hij, hjb, hmi, HA, HI⟩ := hrel
    by_cases hlt : i < j
    · obtain ⟨h, hh⟩ : ∃ h, (i + j) / 2 = h := ⟨_, rfl⟩
      have eij : ((i : Int) + (j : Int)) = ((i + j : Nat) : Int) := by omega
      obtain ⟨t, ht⟩ : ∃ t, i + j = t := ⟨_, rfl⟩
      rw [ht] at eij hh
      have ht2 : t < 2305843009213693952 := by omega
      have eh : (t : Int) / 2 = (h : Int) := by omega
      have hhd : (h : Int) < (d.size : Int) := by omega
      have had : (m : Int) < (d.size : Int) := by omega
      have l1 := HI.out.cl R HD.out.symm h (by omega)
      have l2 := HI.out.cl R HD.out.symm m (by omega)
      have hc := HI.out.cmp HC.out HD.out.symm d[m]! d[h]!
      cases hv : ltOf cf d[m]! d[h]! with
      | true =>
        have HV : Hid ((!ltOf cf d[m]! d[h]!) = false) := Lib.hid (by rw [hv]; rfl)
        have hv2 : cf d[m]! d[h]! < 0 := of_decide_eq_true hv
        obtain ⟨r, hr⟩ : ∃ r, cf d[m]! d[h]! = r := ⟨_, rfl⟩
        obtain ⟨x, hx⟩ : ∃ x, d[h]! = x := ⟨_, rfl⟩
        obtain ⟨y, hy⟩ : ∃ x, d[m]! = x := ⟨_, rfl⟩
        rw [hr] at hc hv2
        rw [hx] at hc l1
        rw [hy] at hc l2
        have hd2 : decide (r < 0) = true := decide_eq_true hv2
        clear hx hy hr hv
        go_wp2_with fail
        go_quiet_grown (first | (go_at_fn g; refine Calls.grown_of (hc _ _)))
        have S2 : Hid (SW enc w0 blk off d (grow (wr.drewN nq) osq)) := HI.out.grown nq osq
        clear l1 l2 hc HI
        generalize grow (wr.drewN nq) osq = w2 at S2 ⊢
        clear nq osq
        go_wp2
        go_roundg (h - i)
        case measure => omega
        case rel => exact ⟨i, h, rfl, by first | rfl | go_num, Nat.le_refl _, by omega, by omega, by omega, Lib.hid ⟨by omega, by omega, by omega, HA.out.2.2.2.1, .inr HV.out⟩, S2⟩
      | false =>
        have HV : Hid ((!ltOf cf d[m]! d[h + 1 - 1]!) = true) := Lib.hid (by rw [Nat.add_sub_cancel, hv]; rfl)
        have hv2 : ¬ cf d[m]! d[h]! < 0 := of_decide_eq_false hv
        obtain ⟨r, hr⟩ : ∃ r, cf d[m]! d[h]! = r := ⟨_, rfl⟩
        obtain ⟨x, hx⟩ : ∃ x, d[h]! = x := ⟨_, rfl⟩
        obtain ⟨y, hy⟩ : ∃ x, d[m]! = x := ⟨_, rfl⟩
        rw [hr] at hc hv2
        rw [hx] at hc l1
        rw [hy] at hc l2
        have hd2 : decide (r < 0) = false := decide_eq_false hv2
        clear hx hy hr hv
        go_wp2_with fail
        go_quiet_grown (first | (go_at_fn g; refine Calls.grown_of (hc _ _)))
        have S2 : Hid (SW enc w0 blk off d (grow (wr.drewN nq) osq)) := HI.out.grown nq osq
        clear l1 l2 hc HI
        generalize grow (wr.drewN nq) osq = w2 at S2 ⊢
        clear nq osq
        go_wp2
        go_roundg (j - (h + 1))
        case measure => omega
        case rel => exact ⟨h + 1, j, by go_num, rfl, Nat.le_refl _, by omega, by omega, by omega, Lib.hid ⟨by omega, by omega, by omega, .inr HV.out, HA.out.2.2.2.2⟩, S2⟩
    · obtain rfl : i = j := by omega
      have HUP := Lib.hid fun d' => put_down (d' := d') (i := i) (d := d) (a := a) HO.out (by omega) hjb H1.out (HA.out.2.2.2.1.imp id fun h => by simpa using h) (HA.out.2.2.2.2.imp id fun h => by simpa using h)
      clear HA H1
      go_wp2_with fail
      have HS : Hid (∃ dk : Array α, dk.size = d.size ∧ SW enc w0 blk off dk wr ∧ PermIn a (m + 1) d dk ∧ Rot d dk m m (m + 1)) := Lib.hid ⟨d, rfl, HI.out, permIn_refl d a (m + 1), (Rot.none d m (m + 1) (by omega)).1⟩
      clear HI
      go_loopg [17] (m - i) (fun gk vk wx => ∃ k : Nat, vk = .int .i64 k ∧ k - i ≤ gk ∧ i ≤ k ∧ k ≤ m ∧ Hid (∃ dk : Array α, dk.size = d.size ∧ SW enc w0 blk off dk wx ∧ PermIn a (m + 1) d dk ∧ Rot d dk k m (m + 1)))
      case atStart => exact ⟨m, rfl, by omega, by omega, by omega, HS⟩
      case round =>
        clear HS
        obtain ⟨k, rfl, hgk, hak, hki, HI⟩ := hrel
        by_cases hlt2 : i < k
        · obtain ⟨dk, hdk, S1, hp, hr⟩ := HI.out
          obtain ⟨q, hq⟩ : ∃ q, k = q + 1 := ⟨k - 1, by omega⟩
          have hk1 : k < dk.size := by omega
          have hq1 : q < dk.size := by omega
          have eq1 : (k : Int) - 1 = (q : Int) := by omega
          have rq1 : IntKind.i64.wrap (q : Int) = (q : Int) := by rw [IntKind.wrap_i64]; omega
          have bk : (k : Int) < (d.size : Int) := by omega
          have bq : (q : Int) < (d.size : Int) := by omega
          have HN : Hid (∀ wx, SW enc w0 blk off (swp dk k q) wx → ∃ dk : Array α, dk.size = d.size ∧ SW enc w0 blk off dk wx ∧ PermIn a (m + 1) d dk ∧ Rot d dk q m (m + 1)) := Lib.hid fun wx hx =>
            ⟨_, by rw [swp_size]; exact hdk, hx, permIn_trans _ _ _ a (m + 1) hp (swp_permIn _ a (m + 1) k q (by omega) (by omega) (by omega) (by omega) (by omega)), by
              rw [hq] at hr ⊢
              exact Rot.down hr (by omega) (by omega)⟩
          have hds : dk.size = d0.size := by rw [hdk, HD.out]
          have c1 := S1.c1 R hds k hk1
          have c2 := S1.c1 R hds q hq1
          have f1 := S1.f1 R hds k hk1
          have f2 := S1.f1 R hds q hq1
          obtain ⟨x, hx⟩ : ∃ x, dk[k]! = x := ⟨_, rfl⟩
          obtain ⟨y, hy⟩ : ∃ y, dk[q]! = y := ⟨_, rfl⟩
          have S3 : Hid (SW enc w0 blk off (swp dk k q) ((wr.setCell ⟨blk, off + k, none⟩ (enc y)).setCell ⟨blk, off + q, none⟩ (enc x)).drew) := by
            rw [← hx, ← hy]
            exact S1.swapped R k q hk1 hq1
          obtain ⟨u, c3⟩ := S1.c2 R hds k q hk1 hq1 (enc y)
          rw [hx] at c1
          rw [hy] at c2
          have hq2 : q + 1 = k := hq.symm
          clear hx hy hr hp S1 HI hk1 hq1 hds hdk hq
          go_wp2_with fail
          go_big_region_o
          clear c1 c2 c3 f1 f2
          generalize ((wr.setCell ⟨blk, off + k, none⟩ (enc y)).setCell ⟨blk, off + q, none⟩ (enc x)).drew = w3 at S3 ⊢
          go_wp2
          go_roundg (q - i)
          case measure => omega
          case rel => exact ⟨q, by first | rfl | go_num | (congr 1), Nat.le_refl _, by omega, by omega, Lib.hid (HN.out _ S3.out)⟩
        · obtain rfl : k = i := by omega
          obtain ⟨dk, hdk, S1, hp, hr⟩ := HI.out
          have HZ := Lib.hid (HPost.out wr dk S1 hp (HUP.out dk hr))
          clear hdk S1 hp hr HI HUP HPost
          go_wp2
          go_end0
          exact HZ.out
end Go.Proofs.Ytjbohidkjlnalaa
