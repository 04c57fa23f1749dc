/- Layer 6: the forest's lightest node, and two of them joined, in the program. -/
import Derived.Test.YtjbohidkjlnalaaHMath
import Derived.Test.YtjbohidkjlnalaaRefAsk
namespace Go.Proofs.Ytjbohidkjlnalaa
open Go.RowKit

/-- The forest's own block. -/
def fcells (n : Nat) (As : Option Addr) (ns cs U N p q : Nat) : List Value := [.int .i64 (n : Nat), .slice As ns cs, .slice (some ⟨U, 0, none⟩) N N, .int .i64 (p : Nat), .int .i64 (q : Nat)]
structure For (w : World) (F gs U n N p q cs : Nat) (s ab : List Nat) : Prop where
  blk : Is w F 50 (fcells n (some ⟨gs, 0, none⟩) s.length cs U N p q)
  sums : Row 3 w (some ⟨gs, 0, none⟩) s.length cs (ints s)
  above : Row 3 w (some ⟨U, 0, none⟩) N N (ints ab)
  fs : F ≠ gs
  fu : F ≠ U
  su : gs ≠ U
theorem For.quiet {w w' : World} {F gs U n N p q cs : Nat} {s ab : List Nat} (h : For w F gs U n N p q cs s ab) {S : Nat → Prop} (ho : Only S w w') (h1 : ¬ S F) (h2 : ¬ S gs) (h3 : ¬ S U) : For w' F gs U n N p q cs s ab :=
  ⟨h.blk.only ho h1, h.sums.only ho (by rintro j ⟨ad, e, rfl⟩; obtain rfl := Option.some.inj e; exact h2), h.above.only ho (by rintro j ⟨ad, e, rfl⟩; obtain rfl := Option.some.inj e; exact h3), h.fs, h.fu, h.su⟩
theorem Row.num {w : World} {g n c : Nat} {l : List Nat} (h : Row 3 w (some ⟨g, 0, none⟩) n c (ints l)) (i : Nat) (hi : i < l.length) : w.cell? ⟨g, i, none⟩ = some (.int .i64 (ln l i : Nat)) ∧ w.frozen? ⟨g, i, none⟩ = false := by
  obtain ⟨g', e, h1, h2⟩ := h.cell (ints_at l i hi)
  obtain rfl : g = g' := by simpa using e
  exact ⟨h1, h2⟩

def LightPost (w : World) (F gs U n N cs v p2 q2 : Nat) (s ab : List Nat) (e : Ending) (w' : World) : Prop := e = .returned (.int .i64 (v : Nat)) ∧ For w' F gs U n N p2 q2 cs s ab ∧ Only (fun j => j = F) w w'

set_option maxHeartbeats 4000000 in
theorem light_leaf (F gs U n N p q cs : Nat) (s ab : List Nat) (w : World) (h : For w F gs U n N p q cs s ab) (ht : takesLeaf n s p q) (hq : q ≤ s.length) (hns : n ≤ s.length) (hs : s.length ≤ 1000) :
    Calls Try.prog 37 #[.pointer (some ⟨F, 0, none⟩)] w (LightPost w F gs U n N cs p (p + 1) q s ab) := by
  have HF := Lib.hid h
  have c0 : ∀ k, (w.drewN k).cell? ⟨F, 0, none⟩ = some (.int .i64 (n : Int)) := fun _ => h.blk.cell 0 rfl
  have c1 : ∀ k, (w.drewN k).cell? ⟨F, 1, none⟩ = some (.slice (some ⟨gs, 0, none⟩) s.length cs) := fun _ => h.blk.cell 1 rfl
  have c3 : ∀ k, (w.drewN k).cell? ⟨F, 3, none⟩ = some (.int .i64 (p : Int)) := fun _ => h.blk.cell 3 rfl
  have c4 : ∀ k, (w.drewN k).cell? ⟨F, 4, none⟩ = some (.int .i64 (q : Int)) := fun _ => h.blk.cell 4 rfl
  have hpn := ht.1
  have cp : ∀ k, (w.drewN k).cell? ⟨gs, p, none⟩ = some (.int .i64 (ln s p : Nat)) := fun _ => (h.sums.num p (by omega)).1
  have HSet : Hid (∀ k, For ((w.drewN k).setCell ⟨F, 3, none⟩ (.int .i64 ((p : Int) + 1))) F gs U n N (p + 1) q cs s ab ∧ Only (fun j => j = F) w ((w.drewN k).setCell ⟨F, 3, none⟩ (.int .i64 ((p : Int) + 1)))) := Lib.hid fun k => by
    have ho : Only (fun j => j = F) (w.drewN k) ((w.drewN k).setCell ⟨F, 3, none⟩ (.int .i64 ((p : Int) + 1))) := Only.one _ F 3 _
    have hd : Only (fun j => j = F) w (w.drewN k) := (Only.refl _ w).drewN k
    refine ⟨⟨(h.blk.drewN k).set 3 _, ((h.sums.drewN k).only ho ?_), ((h.above.drewN k).only ho ?_), h.fs, h.fu, h.su⟩, hd.trans ho⟩
    · rintro j ⟨ad, e, rfl⟩ e2; obtain rfl := Option.some.inj e; exact h.fs e2.symm
    · rintro j ⟨ad, e, rfl⟩ e2; obtain rfl := Option.some.inj e; exact h.fu e2.symm
  have fz : ∀ k, (w.drewN k).frozen? ⟨F, 3, none⟩ = false := fun _ => h.blk.frozen 3
  obtain ⟨L, hL⟩ : ∃ L, s.length = L := ⟨_, rfl⟩
  have hpz : (p : Int) < (n : Int) := by omega
  have hpd : decide ((p : Int) < (n : Int)) = true := decide_eq_true hpz
  have ht2 := ht.2
  have hfin : Hid (∀ k, ∃ v, ((w.drewN k).setCell ⟨F, 3, none⟩ (.int .i64 ((p : Int) + 1))).cell? ⟨F, 3, none⟩ = v ∧ v = some (.int .i64 ((p : Int) + 1))) := Lib.hid fun k => ⟨_, rfl, (HSet.out k).1.blk.cell 3 rfl⟩
  rw [hL] at c1 hq hs ht2 hns
  by_cases hqe : q = L
  · subst hqe
    have hE : ((q : Int) == (q : Int)) = true := by simp
    clear h ht ht2 cp
    go_enter Try.func37, Try.ntmps37
    go_wp2_with fail
    go_quiet (fail)
    have k3 := c3 nq
    have kf := fz nq
    have HS2 := Lib.hid (HSet.out nq)
    obtain ⟨v, hv1, hv2⟩ := hfin.out nq
    rw [hv2] at hv1
    clear c0 c1 c3 c4 fz HSet hfin hv2
    generalize w.drewN nq = w3 at k3 kf HS2 hv1 ⊢
    go_wp2
    go_ret
    exact ⟨by first | rfl | (congr 2; omega), HS2.out⟩
  · have hqL : q < L := by omega
    have cq : ∀ k, (w.drewN k).cell? ⟨gs, q, none⟩ = some (.int .i64 (ln s q : Nat)) := fun _ => (h.sums.num q (by omega)).1
    have hle : ln s p ≤ ln s q := by rcases ht2 with h1 | h1 <;> omega
    obtain ⟨x, hx⟩ : ∃ x, ln s p = x := ⟨_, rfl⟩
    obtain ⟨y, hy⟩ : ∃ y, ln s q = y := ⟨_, rfl⟩
    rw [hx] at cp hle
    rw [hy] at cq hle
    have hN : ¬ (q : Int) = (L : Int) := by omega
    have hE : ((q : Int) == (L : Int)) = false := by simpa using hN
    have hxy : decide ((x : Int) ≤ (y : Int)) = true := decide_eq_true (by omega)
    have bp : (p : Int) < (L : Int) := by omega
    have bq : (q : Int) < (L : Int) := by omega
    clear h ht ht2 hx hy
    go_enter Try.func37, Try.ntmps37
    go_wp2_with fail
    go_quiet (fail)
    have k3 := c3 nq
    have kf := fz nq
    have HS2 := Lib.hid (HSet.out nq)
    obtain ⟨v, hv1, hv2⟩ := hfin.out nq
    rw [hv2] at hv1
    clear c0 c1 c3 c4 fz HSet hfin hv2 cp cq
    generalize w.drewN nq = w3 at k3 kf HS2 hv1 ⊢
    go_wp2
    go_ret
    exact ⟨by first | rfl | (congr 2; omega), HS2.out⟩
set_option maxHeartbeats 4000000 in
theorem light_pair (F gs U n N p q cs : Nat) (s ab : List Nat) (w : World) (h : For w F gs U n N p q cs s ab) (ht : ¬ takesLeaf n s p q) (hq : q < s.length) (hns : n ≤ s.length) (hpn : p ≤ n) (hs : s.length ≤ 1000) :
    Calls Try.prog 37 #[.pointer (some ⟨F, 0, none⟩)] w (LightPost w F gs U n N cs q p (q + 1) s ab) := by
  have HF := Lib.hid h
  have c0 : ∀ k, (w.drewN k).cell? ⟨F, 0, none⟩ = some (.int .i64 (n : Int)) := fun _ => h.blk.cell 0 rfl
  have c1 : ∀ k, (w.drewN k).cell? ⟨F, 1, none⟩ = some (.slice (some ⟨gs, 0, none⟩) s.length cs) := fun _ => h.blk.cell 1 rfl
  have c3 : ∀ k, (w.drewN k).cell? ⟨F, 3, none⟩ = some (.int .i64 (p : Int)) := fun _ => h.blk.cell 3 rfl
  have c4 : ∀ k, (w.drewN k).cell? ⟨F, 4, none⟩ = some (.int .i64 (q : Int)) := fun _ => h.blk.cell 4 rfl
  have cq : ∀ k, (w.drewN k).cell? ⟨gs, q, none⟩ = some (.int .i64 (ln s q : Nat)) := fun _ => (h.sums.num q (by omega)).1
  have HSet : Hid (∀ k, For ((w.drewN k).setCell ⟨F, 4, none⟩ (.int .i64 ((q : Int) + 1))) F gs U n N p (q + 1) cs s ab ∧ Only (fun j => j = F) w ((w.drewN k).setCell ⟨F, 4, none⟩ (.int .i64 ((q : Int) + 1)))) := Lib.hid fun k => by
    have ho : Only (fun j => j = F) (w.drewN k) ((w.drewN k).setCell ⟨F, 4, none⟩ (.int .i64 ((q : Int) + 1))) := Only.one _ F 4 _
    have hd : Only (fun j => j = F) w (w.drewN k) := (Only.refl _ w).drewN k
    refine ⟨⟨(h.blk.drewN k).set 4 _, ((h.sums.drewN k).only ho ?_), ((h.above.drewN k).only ho ?_), h.fs, h.fu, h.su⟩, hd.trans ho⟩
    · rintro j ⟨ad, e, rfl⟩ e2; obtain rfl := Option.some.inj e; exact h.fs e2.symm
    · rintro j ⟨ad, e, rfl⟩ e2; obtain rfl := Option.some.inj e; exact h.fu e2.symm
  have fz : ∀ k, (w.drewN k).frozen? ⟨F, 4, none⟩ = false := fun _ => h.blk.frozen 4
  obtain ⟨L, hL⟩ : ∃ L, s.length = L := ⟨_, rfl⟩
  have hfin : Hid (∀ k, ∃ v, ((w.drewN k).setCell ⟨F, 4, none⟩ (.int .i64 ((q : Int) + 1))).cell? ⟨F, 4, none⟩ = v ∧ v = some (.int .i64 ((q : Int) + 1))) := Lib.hid fun k => ⟨_, rfl, (HSet.out k).1.blk.cell 4 rfl⟩
  rw [hL] at c1 hq hs hns
  by_cases hpn2 : p < n
  · have cp : ∀ k, (w.drewN k).cell? ⟨gs, p, none⟩ = some (.int .i64 (ln s p : Nat)) := fun _ => (h.sums.num p (by omega)).1
    have hle : ln s q < ln s p := by
      rcases Nat.lt_or_ge (ln s q) (ln s p) with h1 | h1
      · exact h1
      · exact absurd ⟨hpn2, .inr h1⟩ ht
    obtain ⟨x, hx⟩ : ∃ x, ln s p = x := ⟨_, rfl⟩
    obtain ⟨y, hy⟩ : ∃ y, ln s q = y := ⟨_, rfl⟩
    rw [hx] at cp hle
    rw [hy] at cq hle
    have hpz : (p : Int) < (n : Int) := by omega
    have hpd : decide ((p : Int) < (n : Int)) = true := decide_eq_true hpz
    have hN : ¬ (q : Int) = (L : Int) := by omega
    have hE : ((q : Int) == (L : Int)) = false := by simpa using hN
    have hxy : decide ((x : Int) ≤ (y : Int)) = false := decide_eq_false (by omega)
    have bp : (p : Int) < (L : Int) := by omega
    have bq : (q : Int) < (L : Int) := by omega
    clear h ht hx hy
    go_enter Try.func37, Try.ntmps37
    go_wp2_with fail
    go_quiet (fail)
    have k3 := c4 nq
    have kf := fz nq
    have HS2 := Lib.hid (HSet.out nq)
    obtain ⟨v, hv1, hv2⟩ := hfin.out nq
    rw [hv2] at hv1
    clear c0 c1 c3 c4 fz HSet hfin hv2 cq cp
    generalize w.drewN nq = w3 at k3 kf HS2 hv1 ⊢
    go_wp2
    go_ret
    exact ⟨by first | rfl | (congr 2; omega), HS2.out⟩
  · have hpz : ¬ (p : Int) < (n : Int) := by omega
    have hpd : decide ((p : Int) < (n : Int)) = false := decide_eq_false hpz
    clear h ht
    go_enter Try.func37, Try.ntmps37
    go_wp2_with fail
    go_quiet (fail)
    have k3 := c4 nq
    have kf := fz nq
    have HS2 := Lib.hid (HSet.out nq)
    obtain ⟨v, hv1, hv2⟩ := hfin.out nq
    rw [hv2] at hv1
    clear c0 c1 c3 c4 fz HSet hfin hv2 cq
    generalize w.drewN nq = w3 at k3 kf HS2 hv1 ⊢
    go_wp2
    go_ret
    exact ⟨by first | rfl | (congr 2; omega), HS2.out⟩

/-- One is taken: node v; then p2 and q2 are the next ones. -/
structure Takes (W s : List Nat) (n p q v p2 q2 : Nat) : Prop where
  rest : rem W s p q = ln s v :: rem W s p2 q2
  one : p2 + q2 = p + q + 1
  pp : p ≤ p2
  pn : p2 ≤ n
  qq : q ≤ q2
  qs : q2 ≤ s.length
  fresh : ¬ Tk n p q v
  took : Tk n p2 q2 v
  all : ∀ u, Tk n p2 q2 u → Tk n p q u ∨ u = v
theorem light (F gs U n N p q cs : Nat) (W s ab : List Nat) (w : World) (h : For w F gs U n N p q cs s ab) (hn : W.length = n) (hl : ∀ v, v < n → ln s v = ln W v) (hpn : p ≤ n) (hnq : n ≤ q) (hq : q ≤ s.length) (hsome : p < n ∨ q < s.length) (hs : s.length ≤ 1000) :
    Calls Try.prog 37 #[.pointer (some ⟨F, 0, none⟩)] w fun e w' => ∃ v p2 q2, LightPost w F gs U n N cs v p2 q2 s ab e w' ∧ Takes W s n p q v p2 q2 := by
  by_cases ht : takesLeaf n s p q
  · have h1 := ht.1
    refine (light_leaf F gs U n N p q cs s ab w h ht hq (by omega) hs).mono fun e w' he => ⟨p, p + 1, q, he, rem_leaf hn hl ht, by omega, by omega, by omega, by omega, hq, ?_, ?_, fun u hu => ?_⟩
    · unfold Tk; omega
    · unfold Tk; omega
    · unfold Tk at *; omega
  · have hq2 : q < s.length := by
      rcases Nat.lt_or_ge q s.length with h1 | h1
      · exact h1
      · exact absurd ⟨by omega, .inl (by omega)⟩ ht
    refine (light_pair F gs U n N p q cs s ab w h ht hq2 (by omega) hpn hs).mono fun e w' he => ⟨q, p, q + 1, he, rem_pair hn hl hq2 ht, by omega, by omega, hpn, by omega, by omega, ?_, ?_, fun u hu => ?_⟩
    · unfold Tk; omega
    · unfold Tk; omega
    · unfold Tk at *; omega
end Go.Proofs.Ytjbohidkjlnalaa
