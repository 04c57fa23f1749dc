/- Layer 10, the program: what symbols say. -/
import Derived.Test.YtlhffflemajlfaaRepeat
import Derived.Test.YtlhffflemajlfaaMay
namespace Go.Proofs.Ytlhffflemajlfaa
open Go.RowKit

theorem numberOf (A : Option Addr) (q c B : Nat) (o : List Nat) (s : Int) (w : World) (h : See w B A (ints o)) (hq : o.length = q) (hs : s = 16 → q ≠ 0) (h0 : 0 ≤ s) (hb : q ≤ 1000000) : Calls Try.prog 21 #[.int .i64 s, .slice A q c] w fun e w' => e = .returned (.int .i64 (whatF s o)) ∧ w = w' := by
  unfold whatF
  by_cases h1 : s = 16
  · have hq0 : q ≠ 0 := hs h1
    rw [if_pos h1, hq]
    obtain ⟨b, off, rfl, _, hd⟩ := h (q - 1) _ (ints_at o (q - 1) (by omega))
    obtain ⟨p, hp⟩ : ∃ p, q - 1 = p := ⟨_, rfl⟩
    rw [hp] at hd ⊢
    obtain ⟨x, hx⟩ : ∃ x, o.getD p 0 = x := ⟨_, rfl⟩
    rw [hx] at hd ⊢
    have e1 : (q : Int) - 1 = (p : Int) := by omega
    clear hs h hx
    subst h1
    go_enter Try.func21, Try.ntmps21
    go_wp2
    go_ret
    exact ⟨rfl, rfl⟩
  · rw [if_neg h1]
    clear hs h hq
    by_cases h2 : s = 17
    · subst h2
      go_enter Try.func21, Try.ntmps21
      go_wp2
      go_ret
      exact ⟨rfl, rfl⟩
    · by_cases h3 : s = 18
      · subst h3
        go_enter Try.func21, Try.ntmps21
        go_wp2
        go_ret
        exact ⟨rfl, rfl⟩
      · rw [if_neg h2, if_neg h3, show ((s.toNat : Nat) : Int) = s from by omega]
        go_enter Try.func21, Try.ntmps21
        go_wp2
        go_ret
        exact ⟨rfl, rfl⟩

def UnPost (w : World) (r : List Nat × Nat) (e : Ending) (w' : World) : Prop := ∃ (A : Option Addr) (n c : Nat), e = .returned (.tuple #[.slice A n c, .int .i64 r.2]) ∧ r.1.length = n ∧ Made 3 w A n c (ints r.1) w'
theorem Made.empty {e : TypeId} {w w' : World} (h : Only (fun _ => False) w w') : Made e w none 0 0 [] w' := ⟨Row.nil e w', h, by rintro j ⟨ad, e, _⟩; cases e⟩
theorem UnPost.bad {w w' : World} {r : List Nat × Nat} {k : Nat} (hr : r = ([], k)) (h : Only (fun _ => False) w w') : UnPost w r (.returned (.tuple #[.slice none 0 0, .int .i64 k])) w' := by
  subst hr
  exact ⟨none, 0, 0, rfl, rfl, Made.empty h⟩
/-- Where it stands behind j symbols. -/
def UnAt (w : World) (ts : List Ru) (j : Nat) (o : List Nat) (A : Option Addr) (q c : Nat) (wx : World) : Prop := o.length = q ∧ unF (ts.drop j) o = unF ts [] ∧ Made 3 w A q c (ints o) wx
theorem Made.new {e : TypeId} {w0 wx wy : World} {A : Option Addr} {n c : Nat} {vs : List Value} (h : Made e w0 A n c vs wx) (k : Only (fun _ => False) wx wy) : Made e w0 A n c vs wy := ⟨h.1.only k fun _ _ f => f, h.2.1.trans k, h.2.2⟩
theorem UnAt.new {w wx wy : World} {ts : List Ru} {j : Nat} {o : List Nat} {A : Option Addr} {q c : Nat} (h : UnAt w ts j o A q c wx) (k : Only (fun _ => False) wx wy) : UnAt w ts j o A q c wy := ⟨h.1, h.2.1, h.2.2.new k⟩
theorem ints_rep (o : List Nat) (k x : Nat) : ints o ++ ints (List.replicate k x) = ints (o ++ List.replicate k x) := by simp [ints]
/-- A row that has grown. -/
theorem Made.grown {e : TypeId} {w wx wy : World} {A A' : Option Addr} {n c n' c' : Nat} {l l' : List Value} (h : Made e w A n c l wx) (hr : Row e wy A' n' c' l') (ho : Only (Lies A) wx wy) (ha : A' = A ∨ A' = some ⟨wx.heap.size, 0, none⟩) : Made e w A' n' c' l' wy := by
  refine ⟨hr, h.2.1.andThen ho fun j hj => .inr (h.2.2 j hj), fun j hj => ?_⟩
  rcases ha with e1 | e1
  · exact h.2.2 j (e1 ▸ hj)
  · obtain ⟨ad, e2, e3⟩ := hj
    rw [e1] at e2
    obtain rfl := Option.some.inj e2
    have h1 := h.2.1.size
    have h2 : wx.heap.size = j := e3
    omega

set_option maxRecDepth 20000 in
set_option maxHeartbeats 4000000 in
theorem unpack (A : Option Addr) (n c B : Nat) (ts : List Ru) (w : World) (h : See w B A (rus ts)) (hn : ts.length = n) (hb : n ≤ 1000000) : Calls Try.prog 9 #[.slice A n c] w (UnPost w (unF ts [])) := by
  have HS := Lib.hid h
  have HN := Lib.hid hn
  clear h hn
  go_enter Try.func9, Try.ntmps9
  go_wp2_with fail
  go_loopg [4, 10] n (fun gk v4 i wx => ∃ (j q : Nat) (A' : Option Addr) (c' : Nat) (o : List Nat), i = .int .i64 j ∧ v4 = .slice A' q c' ∧ j + gk ≤ n ∧ n ≤ j + gk ∧ q ≤ 1000 ∧ Hid (UnAt w ts j o A' q c' wx))
  case atStart => exact ⟨0, 0, none, 0, [], rfl, rfl, by omega, by omega, by omega, Lib.hid ⟨rfl, rfl, Made.nil 3 w⟩⟩
  case round =>
    obtain ⟨j, q, A', c', o, rfl, rfl, hg1, hg2, hq, HE⟩ := hrel
    by_cases hlt : j < n
    · obtain ⟨t, ht⟩ : ∃ t, ts[j]? = some t := ⟨ts[j]'(by rw [HN.out]; exact hlt), by simp [HN.out, hlt]⟩
      obtain ⟨b0, off, rfl, _, c0, c1⟩ := (HS.out.new HE.out.2.2.2.1).sym j t ht
      have HT := Lib.hid ht
      obtain ⟨s, m⟩ := t
      simp only at c0 c1
      clear ht
      go_upto_region 5 with fail
      obtain ⟨wa, hwa⟩ : ∃ wa, wr.alloc (.cells #[.int .i64 s, .int .i64 m] 36) = wa := ⟨_, rfl⟩
      obtain ⟨g, hg⟩ : ∃ g, wr.heap.size = g := ⟨_, rfl⟩
      have hIa : Is wa g 36 (ruc ⟨s, m⟩) := by rw [← hwa, ← hg]; exact Is.new wr 36 _
      have HEa : Hid (UnAt w ts j o A' q c' wa) := Lib.hid (HE.out.new (hwa ▸ (Only.refl _ wr).alloc _))
      have ca0 := hIa.cell 0 rfl
      have ca1 := hIa.cell 1 rfl
      have HIa := Lib.hid hIa
      rw [hwa, hg]
      clear hwa hg hIa HE c0 c1
      by_cases hmay : mayR ⟨s, m⟩ = true
      · have HM := Lib.hid hmay
        clear hmay
        go_upto_region 7 with (go_at_call 18; refine (may ⟨s, m⟩ wa).mono ?_; rintro e w2 ⟨rfl, ho⟩; rw [HM.out]; have HO := Lib.hid ho; clear ho)
        have HI2 : Hid (Is w2 g 36 (ruc ⟨s, m⟩)) := Lib.hid (HIa.out.only HO.out fun f => f)
        have HE2 : Hid (UnAt w ts j o A' q c' w2) := Lib.hid (HEa.out.new HO.out)
        have ca0 := HI2.out.cell 0 rfl
        have ca1 := HI2.out.cell 1 rfl
        clear HEa HIa HO
        by_cases hf : s = 16 ∧ q = 0
        · have HX : Hid (unF ts [] = ([], 2)) := Lib.hid (by rw [← HE2.out.2.1]; exact un_first ts j _ o HT.out HM.out hf.1 (by rw [HE2.out.1]; exact hf.2))
          obtain ⟨rfl, rfl⟩ := hf
          go_wp2
          go_ret2
          exact UnPost.bad HX.out HE2.out.2.2.2.1
        · have HF := Lib.hid hf
          have hy := mayR_yes _ HM.out
          obtain ⟨m', rfl⟩ : ∃ m' : Nat, m = m' := ⟨m.toNat, by have := hy.2.2.1; simp only at this; omega⟩
          have hm127 : m' ≤ 127 := by have := hy.2.2.2; have := most_le s; simp only at *; omega
          have hs0 : 0 ≤ s := hy.1
          obtain ⟨fr, hfr⟩ : ∃ fr, leastF s = fr := ⟨_, rfl⟩
          have hfr1 := least_le s
          rw [hfr] at hfr1
          have C19 : Hid (∀ k, Calls Try.prog 19 #[.int .i64 s] (w2.drewN k) fun e w' => e = .returned (.int .i64 fr) ∧ ∃ n, w' = w2.drewN n) := Lib.hid fun k => by
            have := least s (w2.drewN k)
            rw [hfr] at this
            exact this.mono fun _ _ ⟨he, hw⟩ => ⟨he, k, hw.symm⟩
          obtain ⟨u, hu⟩ : ∃ u, fr + m' = u := ⟨_, rfl⟩
          have eu : IntKind.i64.wrap ((fr : Int) + (m' : Int)) = (u : Int) := by rw [IntWalk.i64_in _ (by omega)]; omega
          have hu1 : 1 ≤ u ∧ u ≤ 138 := by omega
          have HU : Hid (timesF ⟨s, m'⟩ = u) := Lib.hid (by unfold timesF; simp only [Int.toNat_natCast]; rw [hfr]; exact hu)
          clear hfr hu hy
          have HW : Hid (s = 16 → q ≠ 0) := Lib.hid fun h => fun h2 => hf ⟨h, h2⟩
          go_cut [24] (fun v wx => v = .bool false ∧ wx = w2)
          case first =>
            by_cases h16 : s = 16
            · have hq0 : ((q : Int) == 0) = false := by simp; exact HW.out h16
              subst h16
              clear hf
              go_wp2_with fail
              go_meet
              exact ⟨rfl, rfl⟩
            · have hq0 : (s == 16) = false := by simp [h16]
              clear hf
              go_wp2_with fail
              go_meet
              exact ⟨rfl, rfl⟩
          case rest =>
            obtain ⟨rfl, rfl⟩ := hcut
            clear hf
            go_upto_region 9 with fail
            go_quiet ((go_at_call 19; exact C19.out _))
            have HI3 := Lib.hid (HI2.out.drewN nq)
            have HE3 := Lib.hid (HE2.out.new ((Only.refl _ _).drewN nq))
            obtain ⟨w3, hw3⟩ : ∃ w3, wc.drewN nq = w3 := ⟨_, rfl⟩
            rw [hw3] at HI3 HE3 ⊢
            have ca0 := HI3.out.cell 0 rfl
            have ca1 := HI3.out.cell 1 rfl
            clear hw3 C19 HI2 HE2 eu
            by_cases hmu : 1000 < q + u
            · have HX : Hid (unF ts [] = ([], 7)) := Lib.hid (by rw [← HE3.out.2.1]; exact un_much ts j _ o HT.out HM.out (fun h => HW.out h.1 (by rw [← HE3.out.1]; exact h.2)) (by rw [HE3.out.1, HU.out]; exact hmu))
              have hmu2 : (1000 : Int) < (q : Int) + (u : Int) := by omega
              go_wp2
              go_ret2
              exact UnPost.bad HX.out HE3.out.2.2.2.1
            · have hmu2 : ¬ (1000 : Int) < (q : Int) + (u : Int) := by omega
              obtain ⟨x, hx⟩ : ∃ x, whatF s o = x := ⟨_, rfl⟩
              have HX := Lib.hid hx
              clear hx hmu
              go_upto_region 12 with fail
              obtain ⟨G, hG⟩ : ∃ G, w3.heap.size = G := ⟨_, rfl⟩
              go_wp2_with (first
                | (go_at_call 21; refine (numberOf A' q c' _ o s w3 HE3.out.2.2.see HE3.out.1 HW.out hs0 (by omega)).mono ?_; rintro e w4 ⟨rfl, rfl⟩; rw [HX.out])
                | (go_at_call 20; refine (repeated G x u _ (hG ▸ (Is.new w3 3 [.int .i64 x]).cell 0 rfl) hu1.1 (by omega)).mono ?_; rintro e w5 ⟨g5, rfl, hm5⟩; have HM5 := Lib.hid hm5; clear hm5)
                | (at_builtin
                   refine wpList_append_row rfl (.tmp 36) (.tmp 43) 22 22 3 rfl Try.underlying22 info3 A' q c' u (ints o) (ints (List.replicate u x)) (.slice (some ⟨g5, 0, none⟩) u u) (by rfl) (by rfl) ((HE3.out.2.2.alloc _).new HM5.out.2.1).1 (by rw [ints_length, List.length_replicate]) (Src.ofMade HM5.out) (by omega) (by omega) ?_
                   intro A6 c6 w6 hrow6 honly6 hlies6
                   have HM6 := Lib.hid (((HE3.out.2.2.alloc _).new HM5.out.2.1).grown hrow6 honly6 hlies6)
                   clear hrow6 honly6 hlies6))
              have HN6 : Hid (UnAt w ts (j + 1) (o ++ List.replicate u x) A6 (q + u) c6 w6) := Lib.hid (by
                refine ⟨by rw [List.length_append, List.length_replicate, HE3.out.1], ?_, by rw [← ints_rep]; exact HM6.out⟩
                rw [← HE3.out.2.1, un_on ts j _ o HT.out HM.out (fun h => HW.out h.1 (by rw [← HE3.out.1]; exact h.2)) (by rw [HE3.out.1, HU.out]; omega), HU.out, HX.out])
              go_roundg (gk - 1)
              case measure => omega
              case rel => exact ⟨j + 1, q + u, A6, c6, _, by go_num, rfl, by omega, by omega, by omega, HN6⟩
      · have HM : Hid (mayR ⟨s, m⟩ = false) := Lib.hid (by simpa using hmay)
        clear hmay
        have HX : Hid (unF ts [] = ([], 1)) := Lib.hid (by rw [← HEa.out.2.1]; exact un_bad ts j _ o HT.out HM.out)
        go_wp2_with (go_at_call 18; refine (may ⟨s, m⟩ wa).mono ?_; rintro e w2 ⟨rfl, ho⟩; rw [HM.out]; have HO := Lib.hid ho; clear ho)
        go_ret2
        exact UnPost.bad HX.out (HEa.out.2.2.2.1.trans HO.out)
    · obtain rfl : j = n := by omega
      have HX : Hid (unF ts [] = (o, 0)) := Lib.hid (by rw [← HE.out.2.1, un_end ts _ o (by rw [HN.out]; exact Nat.le_refl _)])
      go_wp2
      go_ret2
      rw [HX.out]
      exact ⟨A', q, c', rfl, HE.out.1, HE.out.2.2⟩
end Go.Proofs.Ytlhffflemajlfaa
