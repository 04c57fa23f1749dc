/- The library's stable sort: two rows that rise, merged in place (symMergeCmpFunc). -/
import Derived.Test.YtjlkjebmilfgoaaGreatQA
import Derived.Deep.DeepCutAuto
namespace Go.Proofs.YtjlkjebmilfgoaaGreat
open Go.Shelf Go.RowKit Go.Lib Go.Sort
variable {α : Type} [Inhabited α]

/-- Rows as they lie from one step of merging to the next: of the same numbers, parted at mid. -/
def PartAt (enc : α → Value) (cf : α → α → Int) (blk off : Nat) (w0 : World) (a b mid : Nat) (d : Array α) (s e : Nat) (wx : World) : Prop :=
  ∃ dk, SW enc w0 blk off dk wx ∧ PermK (ltOf cf) a b d dk ∧ SortedIn (ltOf cf) a s dk ∧ SortedIn (ltOf cf) s mid dk ∧ SortedIn (ltOf cf) mid e dk ∧ SortedIn (ltOf cf) e b dk ∧ ∀ i j, a ≤ i → i < mid → mid ≤ j → j < b → ltOf cf dk[j]! dk[i]! = false
theorem PartAt.rot {enc : α → Value} {cf : α → α → Int} {blk off : Nat} {w0 wx : World} {a m b mid s e : Nat} {d dk : Array α} (hS : SWO (ltOf cf)) (hb : b ≤ d.size) (hs1 : a ≤ s) (hs2 : s ≤ m) (he1 : m ≤ e) (he2 : e ≤ b) (hse : s + e = mid + m) (h1 : SortedIn (ltOf cf) a m d) (h2 : SortedIn (ltOf cf) m b d)
    (hlo : s = a ∨ e = b ∨ (ltOf cf d[e]! d[s - 1]! = false)) (hhi : s = m ∨ e = m ∨ ltOf cf d[s]! d[e - 1]! = false) (hw : SW enc w0 blk off dk wx) (hst : s = m ∨ e = m ∨ ltOf cf d[e - 1]! d[s]! = true) (hp : PermIn s e d dk) (hr : Rot d dk s m e) : PartAt enc cf blk off w0 a b mid d s e wx := by
  obtain ⟨q1, q2, q3, q4, q5⟩ := parted hS hs1 hs2 he1 he2 hse h1 h2 hlo hhi hr
  exact ⟨dk, hw, part_keeps hS hs1 hs2 he1 he2 hb h1 h2 hst hp hr, q1, q2, q3, q4, q5⟩
/-- The first half is in order. -/
theorem PartAt.left {enc : α → Value} {cf : α → α → Int} {blk off : Nat} {w0 wy : World} {a b mid e : Nat} {d dk dl : Array α} (h1 : mid ≤ b) (h3 : b ≤ d.size) (hd : PermK (ltOf cf) a b d dk) (q3 : SortedIn (ltOf cf) mid e dk) (q4 : SortedIn (ltOf cf) e b dk)
    (q5 : ∀ i j, a ≤ i → i < mid → mid ≤ j → j < b → ltOf cf dk[j]! dk[i]! = false) (he : mid ≤ e) (hp : PermK (ltOf cf) a mid dk dl) (hs : SortedIn (ltOf cf) a mid dl) (hw : SW enc w0 blk off dl wy) : PartAt enc cf blk off w0 a b mid d mid e wy := by
  have hk : dk.size = d.size := hd.1
  refine ⟨dl, hw, permK_trans _ _ _ a b hd (permK_mono _ _ a mid a b (by omega) h1 (by omega) hp), hs, fun i j hi hij hj => by omega, ssame q3 fun p hp1 hp2 => hp.2.1 p (.inr hp1), ssame q4 fun p hp1 hp2 => hp.2.1 p (.inr (by omega)), ?_⟩
  exact across (m := mid) (d := dk) (e := dl) (by omega) h1 (fun x y => ltOf cf y x = false) q5 hp.2.2.1 (permIn_refl dl mid b)
/-- Both halves are. -/
theorem PartAt.done {enc : α → Value} {cf : α → α → Int} {blk off : Nat} {w0 wx : World} {a b mid : Nat} {d dk dl : Array α} (ha : a ≤ mid) (h1 : mid ≤ b) (h3 : b ≤ d.size) (hd : PermK (ltOf cf) a b d dk) (q1 : SortedIn (ltOf cf) a mid dk)
    (q5 : ∀ i j, a ≤ i → i < mid → mid ≤ j → j < b → ltOf cf dk[j]! dk[i]! = false) (hp : PermK (ltOf cf) mid b dk dl) (hs : SortedIn (ltOf cf) mid b dl) (hw : SW enc w0 blk off dl wx) : Merged enc cf blk off w0 a b d (.returned (.tuple #[])) wx := by
  have hk : dk.size = d.size := hd.1
  refine ⟨rfl, dl, hw, permK_trans _ _ _ a b hd (permK_mono _ _ mid b a b ha (by omega) (by omega) hp), sjoin (ssame q1 fun p hp1 hp2 => hp.2.1 p (.inl hp2)) hs ?_⟩
  exact across (m := mid) (d := dk) (e := dk) (by omega) h1 (fun x y => ltOf cf y x = false) q5 (permIn_refl dk a mid) hp.2.2.1

set_option maxHeartbeats 16000000 in
set_option maxRecDepth 100000 in
theorem symMerge (enc : α → Value) (cf : α → α → Int) (hO : SWO (ltOf cf)) (g : Nat) (cb : Array Value) (blk off cap : Nat) (d0 : Array α) (w0 : World)
    (eg : ∀ args w, (callFunc g args).run Tryz.prog w = .ok (.enter g args) w) (hcmp : CmpLays1 Tryz.prog g cb enc cf blk off d0.size w0) (R : Row1 enc w0 blk off d0) (hsz : d0.size < 1152921504606846976) (N : Nat) :
    ∀ (a m b : Nat) (d : Array α) (w : World), b - a ≤ N → d0.size = d.size → SW enc w0 blk off d w → a < m → m < b → b ≤ d.size → SortedIn (ltOf cf) a m d → SortedIn (ltOf cf) m b d →
    Calls Tryz.prog 139 #[.slice (some ⟨blk, off, none⟩) d.size cap, .int .i64 a, .int .i64 m, .int .i64 b, .func (.func g) #[] cb] w (Merged enc cf blk off w0 a b d) := by
  induction N with
  | zero => intro a m b d w hN hs S ham hmb; omega
  | succ N ih =>
    intro a m b d w hN hs S ham hmb hb h1 h2
    by_cases ha1 : m = a + 1
    · subst ha1
      exact symOne enc cf hO g cb blk off cap a b d0 d w0 w eg hcmp R hs S hmb hb (by omega) h2
    by_cases hb1 : b = m + 1
    · subst hb1
      exact symTwo enc cf hO g cb blk off cap a m d0 d w0 w eg hcmp R hs S (by omega) hb (by omega) h1
    have hsz2 : d.size < 1152921504606846976 := by omega
    have hcl0 := R.hO.cells
    simp only [Value.cells] at hcl0
    have hst := R.hO.store Tryz.prog
    have mixed := Tryz.laysSlF20_f138.mixed
    have HIH := Lib.hid ih
    have HC := Lib.hid hcmp
    have HR := Lib.hid R
    have HS := Lib.hid S
    have HD := Lib.hid hs
    have HO := Lib.hid hO
    have H1 := Lib.hid h1
    have H2 := Lib.hid h2
    clear S hs hcmp hO h1 h2 ih R
    obtain ⟨q0, hq0⟩ : ∃ q0, m - a = q0 := ⟨_, rfl⟩
    have e0 : (m : Int) - (a : Int) = (q0 : Int) := by omega
    have e00 : ¬ (q0 : Int) = 1 := by omega
    have e01 : ((q0 : Int) == 1) = false := by simpa using e00
    obtain ⟨q1, hq1⟩ : ∃ q1, b - m = q1 := ⟨_, rfl⟩
    have e1 : (b : Int) - (m : Int) = (q1 : Int) := by omega
    have e10 : ¬ (q1 : Int) = 1 := by omega
    have e11 : ((q1 : Int) == 1) = false := by simpa using e10
    obtain ⟨t, ht⟩ : ∃ t, a + b = t := ⟨_, rfl⟩
    have eab : ((a : Int) + (b : Int)) = (t : Int) := by omega
    obtain ⟨mid, hmid⟩ : ∃ mid, t / 2 = mid := ⟨_, rfl⟩
    have emid : (t : Int) / 2 = (mid : Int) := by omega
    obtain ⟨n, hn⟩ : ∃ n, mid + m = n := ⟨_, rfl⟩
    have en : (mid : Int) + (m : Int) = (n : Int) := by omega
    obtain ⟨p, hp⟩ : ∃ p, n = p + 1 := ⟨n - 1, by omega⟩
    have ep : (n : Int) - 1 = (p : Int) := by omega
    have hp2 : p + 1 = n := hp.symm
    have ht2 : t < 2305843009213693952 := by omega
    clear hp ha1 hb1
    generalize hPost : Merged enc cf blk off w0 a b d = Post
    have HPost := Lib.hid hPost
    clear hPost
    go_enter Tryz.func139, Tryz.ntmps139
    go_upto_if 140 with fail
    go_cut [20, 21] (fun v20 v21 wx => ∃ lo hi : Nat, v20 = .int .i64 lo ∧ v21 = .int .i64 hi ∧ a ≤ lo ∧ lo ≤ hi ∧ hi ≤ m ∧ hi ≤ mid ∧ n ≤ lo + b ∧ Hid (lo = a ∨ n = lo + b) ∧ Hid (hi = m ∨ hi = mid) ∧ wx = w)
    case first =>
      by_cases hmm : mid < m
      · obtain ⟨lo, hlo⟩ : ∃ lo, n - b = lo := ⟨_, rfl⟩
        have elo : (n : Int) - (b : Int) = (lo : Int) := by omega
        go_wp2_with fail
        go_meet
        exact ⟨lo, mid, by first | rfl | go_num, rfl, by omega, by omega, by omega, by omega, by omega, Lib.hid (.inr (by omega)), Lib.hid (.inr rfl), rfl⟩
      · go_wp2_with fail
        go_meet
        exact ⟨a, m, rfl, rfl, by omega, by omega, by omega, by omega, by omega, Lib.hid (.inl rfl), Lib.hid (.inl rfl), rfl⟩
    case rest => as_aux_lemma =>
      obtain ⟨lo, hi, rfl, rfl, h3, h4, h5, h6, h7, HLO, HHI, rfl⟩ := hcut
      go_wp2_with fail
      go_loopg [20, 21] (hi - lo) (fun gk vi vj wx => ∃ i j : Nat, vi = .int .i64 i ∧ vj = .int .i64 j ∧ j - i ≤ gk ∧ i ≤ j ∧ j ≤ hi ∧ lo ≤ i ∧ Hid (HalfAt (fun h => !ltOf cf d[p - h]! d[h]!) lo hi i j) ∧ Hid (SW enc w0 blk off d wx))
      case atStart => exact ⟨lo, hi, rfl, rfl, by omega, by omega, by omega, by omega, Lib.hid ⟨by omega, by omega, by omega, .inl rfl, .inl rfl⟩, HS⟩
      case round =>
        clear HS
        obtain ⟨i, j, rfl, rfl, hg, hij, hjb, hmi, HA, HI⟩ := hrel
        by_cases hlt : i < j
        · obtain ⟨h, hh⟩ : ∃ h, (i + j) / 2 = h := ⟨_, rfl⟩
          obtain ⟨u, hu⟩ : ∃ u, i + j = u := ⟨_, rfl⟩
          have eij : ((i : Int) + (j : Int)) = (u : Int) := by omega
          rw [hu] at hh
          have hu2 : u < 2305843009213693952 := by omega
          have eh : (u : Int) / 2 = (h : Int) := by omega
          obtain ⟨v, hv0⟩ : ∃ v, p - h = v := ⟨_, rfl⟩
          have ev : (p : Int) - (h : Int) = (v : Int) := by omega
          have rv : IntKind.i64.wrap (v : Int) = (v : Int) := by rw [IntKind.wrap_i64]; omega
          have hhd : (h : Int) < (d.size : Int) := by omega
          have hvd : (v : Int) < (d.size : Int) := by omega
          have l1 := HI.out.cl HR.out HD.out.symm h (by omega)
          have l2 := HI.out.cl HR.out HD.out.symm v (by omega)
          have hc := HI.out.cmp HC.out HD.out.symm d[v]! d[h]!
          cases hv : ltOf cf d[v]! d[h]! with
          | true => as_aux_lemma =>
            have HV : Hid ((!ltOf cf d[p - h]! d[h]!) = false) := Lib.hid (by rw [hv0, hv]; rfl)
            have hv2 : cf d[v]! d[h]! < 0 := of_decide_eq_true hv
            obtain ⟨r, hr⟩ : ∃ r, cf d[v]! d[h]! = r := ⟨_, rfl⟩
            obtain ⟨x, hx⟩ : ∃ x, d[h]! = x := ⟨_, rfl⟩
            obtain ⟨y, hy⟩ : ∃ x, d[v]! = x := ⟨_, rfl⟩
            rw [hr] at hc hv2
            rw [hx] at hc l1
            rw [hy] at hc l2
            have hd2 : decide (r < 0) = true := decide_eq_true hv2
            clear hx hy hr hv
            go_wp2_with fail
            go_quiet_grown (first | (go_at_fn g; refine Calls.grown_of (hc _ _)))
            have S2 : Hid (SW enc w0 blk off d (grow (wr.drewN nq) osq)) := HI.out.grown nq osq
            clear l1 l2 hc HI
            generalize grow (wr.drewN nq) osq = w2 at S2 ⊢
            clear nq osq
            go_wp2
            go_roundg (h - i)
            case measure => omega
            case rel => exact ⟨i, h, rfl, by first | rfl | go_num, Nat.le_refl _, by omega, by omega, by omega, Lib.hid ⟨by omega, by omega, by omega, HA.out.2.2.2.1, .inr HV.out⟩, S2⟩
          | false => as_aux_lemma =>
            have HV : Hid ((!ltOf cf d[p - (h + 1 - 1)]! d[h + 1 - 1]!) = true) := Lib.hid (by rw [Nat.add_sub_cancel, hv0, hv]; rfl)
            have hv2 : ¬ cf d[v]! d[h]! < 0 := of_decide_eq_false hv
            obtain ⟨r, hr⟩ : ∃ r, cf d[v]! d[h]! = r := ⟨_, rfl⟩
            obtain ⟨x, hx⟩ : ∃ x, d[h]! = x := ⟨_, rfl⟩
            obtain ⟨y, hy⟩ : ∃ x, d[v]! = x := ⟨_, rfl⟩
            rw [hr] at hc hv2
            rw [hx] at hc l1
            rw [hy] at hc l2
            have hd2 : decide (r < 0) = false := decide_eq_false hv2
            clear hx hy hr hv
            go_wp2_with fail
            go_quiet_grown (first | (go_at_fn g; refine Calls.grown_of (hc _ _)))
            have S2 : Hid (SW enc w0 blk off d (grow (wr.drewN nq) osq)) := HI.out.grown nq osq
            clear l1 l2 hc HI
            generalize grow (wr.drewN nq) osq = w2 at S2 ⊢
            clear nq osq
            go_wp2
            go_roundg (j - (h + 1))
            case measure => omega
            case rel => exact ⟨h + 1, j, by go_num, rfl, Nat.le_refl _, by omega, by omega, by omega, Lib.hid ⟨by omega, by omega, by omega, .inr HV.out, HA.out.2.2.2.2⟩, S2⟩
        · obtain rfl : i = j := by omega
          obtain ⟨e, he⟩ : ∃ e, n - i = e := ⟨_, rfl⟩
          have ee : (n : Int) - (i : Int) = (e : Int) := by omega
          have hlo : i = a ∨ e = b ∨ (ltOf cf d[e]! d[i - 1]! = false) := by
            rcases HA.out.2.2.2.1 with h | h
            · rcases HLO.out with h8 | h8
              · exact .inl (by omega)
              · exact .inr (.inl (by omega))
            · by_cases hi0 : i = 0
              · exact .inl (by omega)
              · have e8 : p - (i - 1) = e := by omega
                have h : (!ltOf cf d[p - (i - 1)]! d[i - 1]!) = true := h
                rw [e8] at h
                exact .inr (.inr (by simpa using h))
          have hhi : i = m ∨ e = m ∨ ltOf cf d[i]! d[e - 1]! = false := by
            rcases HA.out.2.2.2.2 with h | h
            · rcases HHI.out with h8 | h8
              · exact .inl (by omega)
              · exact .inr (.inl (by omega))
            · have e8 : p - i = e - 1 := by omega
              have h : (!ltOf cf d[p - i]! d[i]!) = false := h
              rw [e8] at h
              exact .inr (.inr (HO.out.asymmA (by simpa using h)))
          have hst : i = m ∨ e = m ∨ ltOf cf d[e - 1]! d[i]! = true := by
            rcases HA.out.2.2.2.2 with h | h
            · rcases HHI.out with h8 | h8
              · exact .inl (by omega)
              · exact .inr (.inl (by omega))
            · have e8 : p - i = e - 1 := by omega
              have h : (!ltOf cf d[p - i]! d[i]!) = false := h
              rw [e8] at h
              exact .inr (.inr (by simpa using h))
          have HROT : Hid (∀ wx dk, SW enc w0 blk off dk wx → PermIn i e d dk → Rot d dk i m e → PartAt enc cf blk off w0 a b mid d i e wx) := Lib.hid fun wx dk hw hp hr => PartAt.rot HO.out hb (by omega) (by omega) (by omega) (by omega) (by omega) H1.out H2.out hlo hhi hw hst hp hr
          clear hlo hhi hst HA HLO HHI
          go_upto_region 39 with fail
          go_cut [185] (fun v wx => ∃ B : Bool, v = .bool B ∧ Hid (B = decide (i < m ∧ m < e)) ∧ Hid (SW enc w0 blk off d wx))
          case first =>
            by_cases c1 : i < m
            · by_cases c2 : m < e
              · have c3 : decide (i < m ∧ m < e) = true := decide_eq_true ⟨c1, c2⟩
                go_wp2_with fail
                go_meet
                exact ⟨_, rfl, Lib.hid c3.symm, HI⟩
              · have c3 : decide (i < m ∧ m < e) = false := decide_eq_false fun h => c2 h.2
                have c4 : decide ((m : Int) < (e : Int)) = false := decide_eq_false (by omega)
                go_wp2_with fail
                go_meet
                exact ⟨_, rfl, Lib.hid c3.symm, HI⟩
            · have c3 : decide (i < m ∧ m < e) = false := decide_eq_false fun h => c1 h.1
              have c4 : decide ((i : Int) < (m : Int)) = false := decide_eq_false (by omega)
              go_wp2_with fail
              go_meet
              exact ⟨_, rfl, Lib.hid c3.symm, HI⟩
          case rest => as_aux_lemma =>
            clear HI
            obtain ⟨B, rfl, HB, HI⟩ := hcut
            go_upto_if 185 with fail
            go_cut [] (fun wx => Hid (PartAt enc cf blk off w0 a b mid d i e wx))
            case first =>
              by_cases c0 : (i < m ∧ m < e)
              · obtain rfl : B = true := by rw [HB.out]; exact decide_eq_true c0
                have HC2 := Lib.hid (rotate enc blk off cap i m e d0 d w0 wc (.func (.func g) #[] cb) HR.out HD.out HI.out c0.1 c0.2 (by omega) (by omega))
                clear c0
                go_wp2_with fail
                refine HC2.out.mono ?_
                rintro e1 w1 ⟨rfl, dk, hw, hp, hr⟩
                have HZ := Lib.hid (HROT.out w1 dk hw hp hr)
                clear hw hp hr HC2
                go_wp2_with fail
                go_meet
                exact HZ
              · obtain rfl : B = false := by rw [HB.out]; exact decide_eq_false c0
                have HZ := Lib.hid (HROT.out wc d HI.out (permIn_refl d i e) (by
                  by_cases c5 : i < m
                  · obtain rfl : e = m := by omega
                    exact (Rot.none d i e (by omega)).2
                  · obtain rfl : i = m := by omega
                    exact (Rot.none d i e (by omega)).1))
                clear c0
                go_wp2_with fail
                go_meet
                exact HZ
            case rest => as_aux_lemma =>
              clear HROT HI H1 H2
              have HP := hcut
              clear hcut
              go_upto_region 41 with fail
              go_cut [199] (fun v wx => ∃ B : Bool, v = .bool B ∧ Hid (B = decide (a < i ∧ i < mid)) ∧ Hid (PartAt enc cf blk off w0 a b mid d i e wx))
              case first =>
                by_cases c1 : a < i
                · by_cases c2 : i < mid
                  · have c3 : decide (a < i ∧ i < mid) = true := decide_eq_true ⟨c1, c2⟩
                    go_wp2_with fail
                    go_meet
                    exact ⟨_, rfl, Lib.hid c3.symm, HP⟩
                  · have c3 : decide (a < i ∧ i < mid) = false := decide_eq_false fun h => c2 h.2
                    have c4 : decide ((i : Int) < (mid : Int)) = false := decide_eq_false (by omega)
                    go_wp2_with fail
                    go_meet
                    exact ⟨_, rfl, Lib.hid c3.symm, HP⟩
                · have c3 : decide (a < i ∧ i < mid) = false := decide_eq_false fun h => c1 h.1
                  have c4 : decide ((a : Int) < (i : Int)) = false := decide_eq_false (by omega)
                  go_wp2_with fail
                  go_meet
                  exact ⟨_, rfl, Lib.hid c3.symm, HP⟩
              case rest => as_aux_lemma =>
                clear HP
                obtain ⟨B, rfl, HB, HP⟩ := hcut
                go_upto_if 199 with fail
                go_cut [] (fun wx => Hid (PartAt enc cf blk off w0 a b mid d mid e wx))
                case first =>
                  by_cases c0 : (a < i ∧ i < mid)
                  · obtain rfl : B = true := by rw [HB.out]; exact decide_eq_true c0
                    obtain ⟨dk, hw, hp, q1, q2, q3, q4, q5⟩ := HP.out
                    have hc := HIH.out a i mid dk wc (by omega) (HD.out.trans hp.1.symm) hw c0.1 c0.2 (by have := hp.1; omega) q1 q2
                    rw [hp.1] at hc
                    have HC2 := Lib.hid hc
                    have HZ : Hid (∀ wx dl, SW enc w0 blk off dl wx → PermK (ltOf cf) a mid dk dl → SortedIn (ltOf cf) a mid dl → PartAt enc cf blk off w0 a b mid d mid e wx) := Lib.hid fun wx dl h8 h9 h10 => PartAt.left (by omega) hb hp q3 q4 q5 (by omega) h9 h10 h8
                    clear c0 hc hw hp q1 q2 q3 q4 q5 HP
                    go_wp2_with fail
                    refine HC2.out.mono ?_
                    rintro e1 w1 ⟨rfl, dl, hw, hp, hr⟩
                    have HZ2 := Lib.hid (HZ.out w1 dl hw hp hr)
                    clear hw hp hr HC2 HZ
                    go_wp2_with fail
                    go_meet
                    exact HZ2
                  · obtain rfl : B = false := by rw [HB.out]; exact decide_eq_false c0
                    have HZ : Hid (PartAt enc cf blk off w0 a b mid d mid e wc) := Lib.hid (by
                      obtain ⟨dk, hw, hp, q1, q2, q3, q4, q5⟩ := HP.out
                      refine PartAt.left (by omega) hb hp q3 q4 q5 (by omega) (permK_refl dk a mid) ?_ hw
                      by_cases c5 : a < i
                      · obtain rfl : i = mid := by omega
                        exact q1
                      · obtain rfl : a = i := by omega
                        exact q2)
                    clear c0 HP
                    go_wp2_with fail
                    go_meet
                    exact HZ
                case rest => as_aux_lemma =>
                  clear HP
                  have HP := hcut
                  clear hcut
                  go_upto_region 43 with fail
                  go_cut [213] (fun v wx => ∃ B : Bool, v = .bool B ∧ Hid (B = decide (mid < e ∧ e < b)) ∧ Hid (PartAt enc cf blk off w0 a b mid d mid e wx))
                  case first =>
                    by_cases c1 : mid < e
                    · by_cases c2 : e < b
                      · have c3 : decide (mid < e ∧ e < b) = true := decide_eq_true ⟨c1, c2⟩
                        go_wp2_with fail
                        go_meet
                        exact ⟨_, rfl, Lib.hid c3.symm, HP⟩
                      · have c3 : decide (mid < e ∧ e < b) = false := decide_eq_false fun h => c2 h.2
                        have c4 : decide ((e : Int) < (b : Int)) = false := decide_eq_false (by omega)
                        go_wp2_with fail
                        go_meet
                        exact ⟨_, rfl, Lib.hid c3.symm, HP⟩
                    · have c3 : decide (mid < e ∧ e < b) = false := decide_eq_false fun h => c1 h.1
                      have c4 : decide ((mid : Int) < (e : Int)) = false := decide_eq_false (by omega)
                      go_wp2_with fail
                      go_meet
                      exact ⟨_, rfl, Lib.hid c3.symm, HP⟩
                  case rest => as_aux_lemma =>
                    clear HP
                    obtain ⟨B, rfl, HB, HP⟩ := hcut
                    by_cases c0 : (mid < e ∧ e < b)
                    · obtain rfl : B = true := by rw [HB.out]; exact decide_eq_true c0
                      obtain ⟨dk, hw, hp, q1, q2, q3, q4, q5⟩ := HP.out
                      have hc := HIH.out mid e b dk wc (by omega) (HD.out.trans hp.1.symm) hw c0.1 c0.2 (by have := hp.1; omega) q3 q4
                      rw [hp.1] at hc
                      have HC2 := Lib.hid hc
                      have HZ : Hid (∀ wx dl, SW enc w0 blk off dl wx → PermK (ltOf cf) mid b dk dl → SortedIn (ltOf cf) mid b dl → Post (.returned (.tuple #[])) wx) := Lib.hid fun wx dl h8 h9 h10 => by
                        rw [← HPost.out]
                        exact PartAt.done (by omega) (by omega) hb hp q1 q5 h9 h10 h8
                      clear c0 hc hw hp q1 q2 q3 q4 q5 HP
                      go_wp2_with fail
                      refine HC2.out.mono ?_
                      rintro e1 w1 ⟨rfl, dl, hw, hp, hr⟩
                      have HZ2 := Lib.hid (HZ.out w1 dl hw hp hr)
                      clear hw hp hr HC2 HZ
                      go_wp2
                      go_end0
                      exact HZ2.out
                    · obtain rfl : B = false := by rw [HB.out]; exact decide_eq_false c0
                      have HZ : Hid (Post (.returned (.tuple #[])) wc) := Lib.hid (by
                        rw [← HPost.out]
                        obtain ⟨dk, hw, hp, q1, q2, q3, q4, q5⟩ := HP.out
                        refine PartAt.done (by omega) (by omega) hb hp q1 q5 (permK_refl dk mid b) ?_ hw
                        by_cases c5 : mid < e
                        · obtain rfl : e = b := by omega
                          exact q3
                        · obtain rfl : mid = e := by omega
                          exact q4)
                      clear c0 HP
                      go_wp2
                      go_end0
                      exact HZ.out
end Go.Proofs.YtjlkjebmilfgoaaGreat
