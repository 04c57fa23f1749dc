/- The library's stable sort, whole: blocks in order, merged two by two. -/
import Derived.Test.YtjlkjebmilfgoaaQSym
namespace Go.Proofs.Ytjlkjebmilfgoaa
open Go.Shelf Go.RowKit Go.Lib Go.Sort
variable {α : Type} [Inhabited α] {lt : α → α → Bool}

/-- Each block of c places that lies between lo and hi rises. -/
def Blk (lt : α → α → Bool) (c lo hi : Nat) (d : Array α) : Prop := ∀ q i j, q * c ≤ i → i < j → j < q * c + c → lo ≤ i → j < hi → lt d[j]! d[i]! = false
theorem Blk.step {c a b k : Nat} {d d' : Array α} (h : Blk lt c 0 a d) (ha : a = k * c) (hp : PermK lt a b d d') (hs : SortedIn lt a b d') : Blk lt c 0 b d' := by
  intro q i j h1 h2 h3 h4 h5
  rcases Nat.lt_or_ge q k with hq | hq
  · have h6 : (q + 1) * c ≤ k * c := Nat.mul_le_mul_right c hq
    rw [Nat.add_mul, Nat.one_mul] at h6
    rw [hp.2.1 i (.inl (by omega)), hp.2.1 j (.inl (by omega))]
    exact h q i j h1 h2 h3 h4 (by omega)
  · have h6 : k * c ≤ q * c := Nat.mul_le_mul_right c hq
    exact hs i j (by omega) h2 h5
theorem Blk.keep {c a b n : Nat} {d d' : Array α} (h : Blk lt c a n d) (hab : a ≤ b) (hp : PermK lt a b d d') : Blk lt c b n d' := by
  intro q i j h1 h2 h3 h4 h5
  rw [hp.2.1 i (.inr (by omega)), hp.2.1 j (.inr (by omega))]
  exact h q i j h1 h2 h3 (by omega) h5
theorem Blk.sorted {c lo hi x y q : Nat} {d : Array α} (h : Blk lt c lo hi d) (hx : x = q * c) (h1 : lo ≤ x) (h2 : y ≤ x + c) (h3 : y ≤ hi) : SortedIn lt x y d :=
  fun i j hi hij hj => h q i j (by omega) hij (by omega) (by omega) (by omega)
theorem Blk.one (lo hi : Nat) (d : Array α) : Blk lt 1 lo hi d := fun q i j h1 h2 h3 _ _ => by omega
theorem Blk.zero (c : Nat) (d : Array α) : Blk lt c 0 0 d := fun _ _ _ _ _ _ _ h5 => by omega

/-- Rows as they lie from block to block. -/
def StepAt (enc : α → Value) (cf : α → α → Int) (blk off : Nat) (w0 : World) (d : Array α) (c1 c2 k a n : Nat) (wx : World) : Prop :=
  a = k * c1 ∧ ∃ dk, SW enc w0 blk off dk wx ∧ PermK (ltOf cf) 0 n d dk ∧ Blk (ltOf cf) c1 0 a dk ∧ Blk (ltOf cf) c2 a n dk
theorem StepAt.next {enc : α → Value} {cf : α → α → Int} {blk off : Nat} {w0 wx : World} {d dk dl : Array α} {c1 c2 k a n : Nat} (hn : n = d.size) (hk : a = k * c1) (hp : PermK (ltOf cf) 0 n d dk) (h1 : Blk (ltOf cf) c1 0 a dk) (h2 : Blk (ltOf cf) c2 a n dk) (hb : a + c1 ≤ n)
    (hp2 : PermK (ltOf cf) a (a + c1) dk dl) (hs : SortedIn (ltOf cf) a (a + c1) dl) (hw : SW enc w0 blk off dl wx) : StepAt enc cf blk off w0 d c1 c2 (k + 1) (a + c1) n wx :=
  ⟨by rw [Nat.add_mul, Nat.one_mul, hk], dl, hw, permK_trans _ _ _ 0 n hp (permK_mono _ _ a (a + c1) 0 n (by omega) hb (by rw [hp.1]; omega) hp2), h1.step hk hp2 hs, h2.keep (by omega) hp2⟩
theorem StepAt.last {enc : α → Value} {cf : α → α → Int} {blk off : Nat} {w0 wx : World} {d dk dl : Array α} {c1 k a n : Nat} (hn : n = d.size) (hk : a = k * c1) (hp : PermK (ltOf cf) 0 n d dk) (h1 : Blk (ltOf cf) c1 0 a dk)
    (hp2 : PermK (ltOf cf) a n dk dl) (hs : SortedIn (ltOf cf) a n dl) (hw : SW enc w0 blk off dl wx) : StepAt enc cf blk off w0 d (2 * c1) c1 0 0 n wx :=
  ⟨by rw [Nat.zero_mul], dl, hw, permK_trans _ _ _ 0 n hp (permK_mono _ _ a n 0 n (by omega) (Nat.le_refl _) (by rw [hp.1]; omega) hp2), Blk.zero _ _, fun q i j e1 e2 e3 _ e5 => h1.step hk hp2 hs q i j e1 e2 e3 (by omega) e5⟩

theorem Blk.two {c a n k : Nat} {d : Array α} (h : Blk lt c a n d) (ha : a = k * (2 * c)) : SortedIn lt a (min (a + c) n) d ∧ SortedIn lt (a + c) (min (a + 2 * c) n) d := by
  have e : a = (2 * k) * c := by rw [ha, ← Nat.mul_assoc, Nat.mul_comm k 2]
  refine ⟨h.sorted e (Nat.le_refl _) (Nat.min_le_left _ _) (Nat.min_le_right _ _), h.sorted (q := 2 * k + 1) ?_ (by omega) ?_ (Nat.min_le_right _ _)⟩
  · rw [Nat.add_mul, Nat.one_mul, ← e]
  · have := Nat.min_le_left (a + 2 * c) n
    omega

/-- What the sort leaves: the same numbers, in order. -/
def Sorted (enc : α → Value) (cf : α → α → Int) (blk off : Nat) (w0 : World) (d : Array α) (e : Ending) (w' : World) : Prop :=
  e = .returned (.tuple #[]) ∧ ∃ d', SW enc w0 blk off d' w' ∧ PermK (ltOf cf) 0 d.size d d' ∧ SortedIn (ltOf cf) 0 d.size d'

set_option maxHeartbeats 8000000 in
set_option maxRecDepth 100000 in
theorem stable (enc : α → Value) (cf : α → α → Int) (hO : SWO (ltOf cf)) (g : Nat) (cb : Array Value) (blk off cap : Nat) (d : Array α) (w0 : World)
    (eg : ∀ args w, (callFunc g args).run Try.prog w = .ok (.enter g args) w) (hcmp : CmpLays1 Try.prog g cb enc cf blk off d.size w0) (R : Row1 enc w0 blk off d) (hsz : d.size < 1152921504606846976) :
    Calls Try.prog 91 #[.slice (some ⟨blk, off, none⟩) d.size cap, .int .i64 d.size, .func (.func g) #[] cb] w0 (Sorted enc cf blk off w0 d) := by
  have HIns : Hid (∀ (a b : Nat) (dk : Array α) (w : World), dk.size = d.size → SW enc w0 blk off dk w → a ≤ b → b ≤ d.size → Calls Try.prog 95 #[.slice (some ⟨blk, off, none⟩) d.size cap, .int .i64 a, .int .i64 b, .func (.func g) #[] cb] w (Merged enc cf blk off w0 a b dk)) := Lib.hid fun a b dk w h1 h2 h3 h4 => by
    have := Try.insertionSortCmpFunc_s enc cf g cb blk off cap a b d dk w0 w eg hcmp R h1.symm h2 h3 (by omega) (by omega)
    rw [h1] at this
    refine this.mono ?_
    rintro e w' ⟨rfl, hw⟩
    have hi := insertionSort_holds hO dk a b h3 (by omega)
    exact ⟨rfl, _, hw, PermK.of hi.1 (insertion_keeps dk a b (by omega)), hi.2⟩
  have HSym : Hid (∀ (a m b : Nat) (dk : Array α) (w : World), dk.size = d.size → SW enc w0 blk off dk w → a < m → m < b → b ≤ d.size → SortedIn (ltOf cf) a m dk → SortedIn (ltOf cf) m b dk → Calls Try.prog 96 #[.slice (some ⟨blk, off, none⟩) d.size cap, .int .i64 a, .int .i64 m, .int .i64 b, .func (.func g) #[] cb] w (Merged enc cf blk off w0 a b dk)) := Lib.hid fun a m b dk w h1 h2 h3 h4 h5 h6 h7 => by
    have := symMerge enc cf hO g cb blk off cap d w0 eg hcmp R hsz (b - a) a m b dk w (Nat.le_refl _) h1.symm h2 h3 h4 (by omega) h6 h7
    rw [h1] at this
    exact this
  have HST : Hid (StepAt enc cf blk off w0 d 20 1 0 0 d.size w0) := Lib.hid ⟨rfl, d, SW.start R.hH, permK_refl d 0 d.size, Blk.zero _ _, Blk.one _ _ _⟩
  have HEnd : Hid (∀ c1 c2 wx, StepAt enc cf blk off w0 d c1 c2 0 0 d.size wx → d.size ≤ c2 → Sorted enc cf blk off w0 d (.returned (.tuple #[])) wx) := Lib.hid fun c1 c2 wx h1 h2 => by
    obtain ⟨_, dk, hw, hp, _, hb⟩ := h1
    exact ⟨rfl, dk, hw, hp, hb.sorted (q := 0) (by rw [Nat.zero_mul]) (Nat.le_refl _) (by omega) (Nat.le_refl _)⟩
  clear hcmp R hO
  generalize Sorted enc cf blk off w0 d = Post at HEnd ⊢
  obtain ⟨n, hn⟩ : ∃ n, d.size = n := ⟨_, rfl⟩
  have HN := Lib.hid hn.symm
  rw [hn] at hsz HIns HSym HST HEnd ⊢
  clear hn
  go_enter Try.func91, Try.ntmps91
  go_wp2_with fail
  go_loopg [7, 8] n (fun gk va vb wx => ∃ k a b : Nat, va = .int .i64 a ∧ vb = .int .i64 b ∧ a + 20 = b ∧ a ≤ n ∧ n ≤ a + gk ∧ Hid (StepAt enc cf blk off w0 d 20 1 k a n wx))
  case atStart => exact ⟨0, 0, 20, rfl, rfl, rfl, by omega, by omega, HST⟩
  case round =>
    clear HST
    obtain ⟨k, a, b, rfl, rfl, hb, ha, hg, HI⟩ := hrel
    by_cases hlt : b ≤ n
    · obtain ⟨hk, dk, hw, hp, h1, h2⟩ := HI.out
      have HC := Lib.hid (HIns.out a b dk wr (by rw [hp.1, ← HN.out]) hw (by omega) (by omega))
      have HZ : Hid (∀ wx dl, SW enc w0 blk off dl wx → PermK (ltOf cf) a b dk dl → SortedIn (ltOf cf) a b dl → StepAt enc cf blk off w0 d 20 1 (k + 1) b n wx) := Lib.hid fun wx dl e1 e2 e3 => by
        subst hb
        exact StepAt.next HN.out hk hp h1 h2 hlt e2 e3 e1
      clear hk hw hp h1 h2 HI
      go_wp2_with fail
      refine HC.out.mono ?_
      rintro e w1 ⟨rfl, dl, e1, e2, e3⟩
      have HZ2 := Lib.hid (HZ.out w1 dl e1 e2 e3)
      clear e1 e2 e3 HC HZ
      go_wp2
      go_roundg (gk - 20)
      case measure => omega
      case rel => exact ⟨k + 1, b, b + 20, rfl, by go_num, rfl, by omega, by omega, HZ2⟩
    · obtain ⟨hk, dk, hw, hp, h1, h2⟩ := HI.out
      have HC := Lib.hid (HIns.out a n dk wr (by rw [hp.1, ← HN.out]) hw (by omega) (by omega))
      have HZ : Hid (∀ wx dl, SW enc w0 blk off dl wx → PermK (ltOf cf) a n dk dl → SortedIn (ltOf cf) a n dl → StepAt enc cf blk off w0 d (2 * 20) 20 0 0 n wx) := Lib.hid fun wx dl e1 e2 e3 => StepAt.last HN.out hk hp h1 e2 e3 e1
      clear hk hw hp h1 h2 HI HIns
      go_wp2_with fail
      refine HC.out.mono ?_
      rintro e w1 ⟨rfl, dl, e1, e2, e3⟩
      have HZ2 := Lib.hid (HZ.out w1 dl e1 e2 e3)
      clear e1 e2 e3 HC HZ
      go_wp2_with fail
      go_loopg [6] n (fun gk vc wx => ∃ c : Nat, vc = .int .i64 c ∧ 20 ≤ c ∧ n ≤ c + gk ∧ c ≤ 2305843009213693952 ∧ Hid (StepAt enc cf blk off w0 d (2 * c) c 0 0 n wx))
      case atStart => exact ⟨20, rfl, by omega, by omega, by omega, HZ2⟩
      case round =>
        clear HZ2
        obtain ⟨c, rfl, hc20, hg2, hc61, HI⟩ := hrel
        obtain ⟨gO, hgO⟩ : ∃ gO, gk = gO := ⟨_, rfl⟩
        by_cases hcn : c < n
        · obtain ⟨c2, hc2⟩ : ∃ c2, 2 * c = c2 := ⟨_, rfl⟩
          have ec2 : 2 * (c : Int) = (c2 : Int) := by omega
          have ec3 : (c : Int) * 2 = (c2 : Int) := by omega
          rw [hc2] at HI
          go_wp2_with fail
          go_loopg [7, 8] n (fun gk va vb wx => ∃ k a b : Nat, va = .int .i64 a ∧ vb = .int .i64 b ∧ a + c2 = b ∧ a ≤ n ∧ n ≤ a + gk ∧ Hid (StepAt enc cf blk off w0 d c2 c k a n wx))
          case atStart => exact ⟨0, 0, c2, rfl, by first | rfl | go_num, by omega, by omega, by omega, HI⟩
          case round =>
            clear HI
            obtain ⟨k, a, b, rfl, rfl, hb, ha, hg3, HI⟩ := hrel
            obtain ⟨m, hm⟩ : ∃ m, a + c = m := ⟨_, rfl⟩
            have em : (a : Int) + (c : Int) = (m : Int) := by omega
            by_cases hlt2 : b ≤ n
            · obtain ⟨hk, dk, hw, hp, h1, h2⟩ := HI.out
              have hso := h2.two (by rw [hc2]; exact hk)
              rw [hm, hc2, hb, Nat.min_eq_left (by omega), Nat.min_eq_left hlt2] at hso
              have HC := Lib.hid (HSym.out a m b dk wr (by rw [hp.1, ← HN.out]) hw (by omega) (by omega) (by omega) hso.1 hso.2)
              have HZ : Hid (∀ wx dl, SW enc w0 blk off dl wx → PermK (ltOf cf) a b dk dl → SortedIn (ltOf cf) a b dl → StepAt enc cf blk off w0 d c2 c (k + 1) b n wx) := Lib.hid fun wx dl e1 e2 e3 => by
                subst hb
                exact StepAt.next HN.out hk hp h1 h2 hlt2 e2 e3 e1
              clear hk hw hp h1 h2 HI hso
              go_wp2_with fail
              refine HC.out.mono ?_
              rintro e w1 ⟨rfl, dl, e1, e2, e3⟩
              have HZ2 := Lib.hid (HZ.out w1 dl e1 e2 e3)
              obtain ⟨b', hb'⟩ : ∃ b', b + c2 = b' := ⟨_, rfl⟩
              have eb' : (b : Int) + (c2 : Int) = (b' : Int) := by omega
              clear e1 e2 e3 HC HZ
              go_wp2
              go_roundg (gk - c2)
              case measure => omega
              case rel => exact ⟨k + 1, b, b', rfl, by first | rfl | go_num, by omega, by omega, by omega, HZ2⟩
            · by_cases hmn : m < n
              · obtain ⟨hk, dk, hw, hp, h1, h2⟩ := HI.out
                have hso := h2.two (by rw [hc2]; exact hk)
                rw [hm, hc2, hb, Nat.min_eq_left (by omega), Nat.min_eq_right (by omega)] at hso
                have HC := Lib.hid (HSym.out a m n dk wr (by rw [hp.1, ← HN.out]) hw (by omega) (by omega) (by omega) hso.1 hso.2)
                have HZ : Hid (∀ wx dl, SW enc w0 blk off dl wx → PermK (ltOf cf) a n dk dl → SortedIn (ltOf cf) a n dl → StepAt enc cf blk off w0 d (2 * c2) c2 0 0 n wx) := Lib.hid fun wx dl e1 e2 e3 => StepAt.last HN.out hk hp h1 e2 e3 e1
                clear hk hw hp h1 h2 HI hso
                go_wp2_with fail
                refine HC.out.mono ?_
                rintro e w1 ⟨rfl, dl, e1, e2, e3⟩
                have HZ2 := Lib.hid (HZ.out w1 dl e1 e2 e3)
                clear e1 e2 e3 HC HZ
                go_wp2
                go_roundg (gO - c)
                case measure => omega
                case rel => exact ⟨c2, by first | rfl | go_num, by omega, by omega, by omega, HZ2⟩
              · obtain ⟨hk, dk, hw, hp, h1, h2⟩ := HI.out
                have hso := h2.two (by rw [hc2]; exact hk)
                rw [hm, hc2, hb, Nat.min_eq_right (by omega)] at hso
                have HZ2 : Hid (StepAt enc cf blk off w0 d (2 * c2) c2 0 0 n wr) := Lib.hid (StepAt.last HN.out hk hp h1 (permK_refl dk a n) hso.1 hw)
                clear hk hw hp h1 h2 HI hso
                go_wp2
                go_roundg (gO - c)
                case measure => omega
                case rel => exact ⟨c2, by first | rfl | go_num, by omega, by omega, by omega, HZ2⟩
        · have HZ := Lib.hid (HEnd.out _ _ _ HI.out (by omega))
          clear HI HEnd
          go_wp2
          go_end0
          exact HZ.out
end Go.Proofs.Ytjlkjebmilfgoaa
