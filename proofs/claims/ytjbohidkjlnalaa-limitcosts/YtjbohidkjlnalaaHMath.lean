/- Plain words on joining the two lightest, again and again: the sums are the document's, the tree's leaves cost them, and the code is full. -/
import Derived.Test.YtjbohidkjlnalaaLMath
namespace Go.Proofs.Ytjbohidkjlnalaa

/-- The two least ones together, among the others. -/
def hstep (l : List Nat) : List Nat := mrg (l.drop 2) [ln l 0 + ln l 1]
/-- What so many steps add up to. -/
def hsum : Nat → List Nat → Nat
  | 0, _ => 0
  | k + 1, l => ln l 0 + ln l 1 + hsum k (hstep l)
def freeOf (W : List Nat) : Nat := if W.length < 2 then W.sum else hsum (W.length - 1) W
/-- Which nodes stand under a pair. -/
def Tk (n p q v : Nat) : Prop := v < p ∨ (n ≤ v ∧ v < q)

/-- Leaves W, then sums of pairs: the next leaf is p, the next pair q; above each node that stands under a pair is which. -/
structure Wood (W : List Nat) (n : Nat) (s : List Nat) (p q : Nat) (ab : List Nat) : Prop where
  len : W.length = n
  leaf : ∀ v, v < n → ln s v = ln W v
  pn : p ≤ n
  nq : n ≤ q
  qs : q ≤ s.length
  last : n < s.length → q < s.length
  num : p + (q - n) = 2 * (s.length - n)
  rise : Rise (s.drop n)
  top : ∀ z ∈ s.drop n, ∀ r ∈ W.drop p ++ s.drop q, z ≤ 2 * r
  room : ab.length = 2 * n - 1
  up : ∀ v, Tk n p q v → n ≤ ln ab v ∧ ln ab v < s.length ∧ v < ln ab v
  pair : ∀ k, n ≤ k → k < s.length → ∃ a b, a ≠ b ∧ a < k ∧ b < k ∧ Tk n p q a ∧ Tk n p q b ∧ ln s k = ln s a + ln s b ∧ ∀ v, Tk n p q v → (ln ab v = k ↔ v = a ∨ v = b)
/-- The nodes that stand under none, in order. -/
def rem (W s : List Nat) (p q : Nat) : List Nat := mrg (W.drop p) (s.drop q)

theorem Rise.drop {l : List Nat} (h : Rise l) (k : Nat) : Rise (l.drop k) := List.Pairwise.sublist (List.drop_sublist _ _) h
theorem Wood.rem_rise {W s ab : List Nat} {n p q : Nat} (h : Wood W n s p q ab) (hW : Rise W) : Rise (rem W s p q) := by
  refine mrg_rise (hW.drop p) ?_
  have e : s.drop q = (s.drop n).drop (q - n) := by rw [List.drop_drop]; congr 1; have := h.nq; omega
  rw [e]
  exact h.rise.drop _
theorem Wood.rem_len {W s ab : List Nat} {n p q : Nat} (h : Wood W n s p q ab) (hn : s.length + 1 ≤ 2 * n) : (rem W s p q).length = 2 * n - s.length := by
  have := h.len
  have := h.pn
  have := h.nq
  have := h.qs
  have := h.num
  unfold rem
  rw [mrg_length, List.length_drop, List.length_drop]
  omega
theorem Wood.start {W : List Nat} {n : Nat} (hn : W.length = n) : Wood W n W 0 n (List.replicate (2 * n - 1) 0) where
  len := hn
  leaf := fun _ _ => rfl
  pn := Nat.zero_le _
  nq := Nat.le_refl _
  qs := by omega
  last := fun h => by omega
  num := by omega
  rise := by rw [List.drop_eq_nil_of_le (by omega)]; exact List.Pairwise.nil
  top := by rw [List.drop_eq_nil_of_le (by omega)]; intro z hz; cases hz
  room := by simp
  up := fun v h => by unfold Tk at h; omega
  pair := fun k h1 h2 => by omega
/-- The lightest of them, if a leaf. -/
def takesLeaf (n : Nat) (s : List Nat) (p q : Nat) : Prop := p < n ∧ (q = s.length ∨ ln s p ≤ ln s q)
instance (n : Nat) (s : List Nat) (p q : Nat) : Decidable (takesLeaf n s p q) := by unfold takesLeaf; infer_instance
theorem rem_leaf {W s : List Nat} {n p q : Nat} (hn : W.length = n) (hl : ∀ v, v < n → ln s v = ln W v) (h : takesLeaf n s p q) : rem W s p q = ln s p :: rem W s (p + 1) q := by
  unfold rem
  have e := hl p h.1
  have := mrgF_left W s p q (by rw [hn]; exact h.1) (fun hlt => by rcases h.2 with h2 | h2 <;> omega)
  have := congrArg (List.map Prod.fst) this
  rw [List.map_cons, mrgF_fst, mrgF_fst] at this
  rw [this, e]
theorem rem_pair {W s : List Nat} {n p q : Nat} (hn : W.length = n) (hl : ∀ v, v < n → ln s v = ln W v) (hq : q < s.length) (h : ¬ takesLeaf n s p q) : rem W s p q = ln s q :: rem W s p (q + 1) := by
  unfold rem
  have := mrgF_right W s p q hq (fun hlt => by
    rw [hn] at hlt
    have e := hl p hlt
    have : ¬ (q = s.length ∨ ln s p ≤ ln s q) := fun h2 => h ⟨hlt, h2⟩
    omega)
  have := congrArg (List.map Prod.fst) this
  rw [List.map_cons, mrgF_fst, mrgF_fst] at this
  exact this
/-- Two are taken, and a pair of them is laid. -/
theorem Wood.join {W s ab : List Nat} {n p q p2 q2 i j : Nat} (h : Wood W n s p q ab) (hW : Rise W) (hs : s.length < 2 * n - 1) (hp : p ≤ p2) (hp2 : p2 ≤ n) (hq : q ≤ q2) (hq2 : q2 ≤ s.length) (hnum : p2 + q2 = p + q + 2)
    (hi : ¬ Tk n p q i) (hj : ¬ Tk n p q j) (hij : i ≠ j) (hti : Tk n p2 q2 i) (htj : Tk n p2 q2 j) (hall : ∀ v, Tk n p2 q2 v → Tk n p q v ∨ v = i ∨ v = j) (hrem : rem W s p q = ln s i :: ln s j :: rem W s p2 q2) :
    Wood W n (s ++ [ln s i + ln s j]) p2 q2 ((ab.set i s.length).set j s.length) ∧ rem W (s ++ [ln s i + ln s j]) p2 q2 = hstep (rem W s p q) ∧ ln (rem W s p q) 0 + ln (rem W s p q) 1 = ln s i + ln s j := by
  have hns : n ≤ s.length := Nat.le_trans h.nq h.qs
  have hnq := h.nq
  have hlt : ∀ v, Tk n p2 q2 v → v < s.length := fun v hv => by unfold Tk at hv; omega
  have hil := hlt i hti
  have hjl := hlt j htj
  have hroom := h.room
  obtain ⟨z, hz⟩ : ∃ z, ln s i + ln s j = z := ⟨_, rfl⟩
  rw [hz]
  have hrr := h.rem_rise hW
  rw [hrem] at hrr
  unfold Rise at hrr
  rw [List.pairwise_cons, List.pairwise_cons] at hrr
  have hxy : ln s i ≤ ln s j := hrr.1 _ (by simp)
  have hyr : ∀ r ∈ rem W s p2 q2, ln s j ≤ r := hrr.2.1
  have hmem : ∀ r ∈ W.drop p2 ++ s.drop q2, r ∈ rem W s p2 q2 := fun r hr => (mrg_perm _ _).mem_iff.2 hr
  have hix : ln s i ∈ W.drop p ++ s.drop q := (mrg_perm _ _).mem_iff.1 (by show _ ∈ rem W s p q; rw [hrem]; simp)
  have hold : ∀ u ∈ s.drop n, u ≤ z := fun u hu => by
    have := h.top u hu _ hix
    omega
  have hdn : (s ++ [z]).drop n = s.drop n ++ [z] := List.drop_append_of_le_length hns
  have hdq : (s ++ [z]).drop q2 = s.drop q2 ++ [z] := List.drop_append_of_le_length hq2
  have hat : ∀ v, v < s.length → ln (s ++ [z]) v = ln s v := fun v hv => by simp [ln, List.getElem?_append_left hv]
  have hatz : ln (s ++ [z]) s.length = z := by simp [ln]
  have hab : ∀ v, ln ((ab.set i s.length).set j s.length) v = if v = j then s.length else if v = i then s.length else ln ab v := fun v => by
    rw [ln_set _ _ _ _ (by simp; omega), ln_set _ _ _ _ (by omega)]
  have hsub : ∀ r ∈ s.drop q2, r ∈ s.drop n := fun r hr => by
    have e : s.drop q2 = (s.drop n).drop (q2 - n) := by rw [List.drop_drop]; congr 1; omega
    rw [e] at hr
    exact List.mem_of_mem_drop hr
  have hrise2 : Rise (s.drop n ++ [z]) := by
    unfold Rise
    rw [List.pairwise_append]
    exact ⟨h.rise, List.pairwise_singleton _ _, fun a ha b hb => by rw [List.mem_singleton] at hb; rw [hb]; exact hold a ha⟩
  have htk : ∀ v, Tk n p q v → Tk n p2 q2 v := fun v hv => by unfold Tk at *; omega
  refine ⟨⟨h.len, fun v hv => by rw [hat v (by omega)]; exact h.leaf v hv, hp2, by omega, by simp; omega, fun _ => by simp; omega, ?_, ?_, ?_, ?_, ?_, ?_⟩, ?_, ?_⟩
  · have := h.num
    rw [List.length_append, List.length_singleton]
    omega
  · rw [hdn]; exact hrise2
  · rw [hdn, hdq]
    intro u hu r hr
    rw [← List.append_assoc, List.mem_append, List.mem_singleton] at hr
    rw [List.mem_append, List.mem_singleton] at hu
    have hzz : z ≤ 2 * z := by omega
    rcases hr with hr | rfl
    · have h1 := hyr r (hmem r hr)
      rcases hu with hu | rfl
      · have := hold u hu; omega
      · omega
    · rcases hu with hu | rfl
      · have := hold u hu; omega
      · exact hzz
  · simp [hroom]
  · intro v hv
    rw [List.length_append, List.length_singleton, hab v]
    rcases hall v hv with h1 | h1 | h1
    · have h2 := h.up v h1
      have : v ≠ i := fun e => hi (e ▸ h1)
      have : v ≠ j := fun e => hj (e ▸ h1)
      rw [if_neg (by assumption), if_neg (by assumption)]
      omega
    · subst h1
      have := hlt v hv
      split <;> (try split) <;> omega
    · subst h1
      have := hlt v hv
      rw [if_pos rfl]
      omega
  · intro k hk1 hk2
    rw [List.length_append, List.length_singleton] at hk2
    rcases Nat.lt_or_ge k s.length with h1 | h1
    · obtain ⟨a, b, e1, e2, e3, e4, e5, e6, e7⟩ := h.pair k hk1 h1
      refine ⟨a, b, e1, e2, e3, htk a e4, htk b e5, by rw [hat k h1, hat a (by omega), hat b (by omega)]; exact e6, fun v hv => ?_⟩
      rw [hab v]
      rcases hall v hv with h2 | h2 | h2
      · have : v ≠ i := fun e => hi (e ▸ h2)
        have : v ≠ j := fun e => hj (e ▸ h2)
        rw [if_neg (by assumption), if_neg (by assumption)]
        exact e7 v h2
      · have : v ≠ a := fun e => hi (h2 ▸ e ▸ e4)
        have : v ≠ b := fun e => hi (h2 ▸ e ▸ e5)
        have e9 : (if v = j then s.length else if v = i then s.length else ln ab v) = s.length := by rw [if_pos h2]; split <;> rfl
        rw [e9]
        constructor <;> intro hh <;> omega
      · have : v ≠ a := fun e => hj (h2 ▸ e ▸ e4)
        have : v ≠ b := fun e => hj (h2 ▸ e ▸ e5)
        rw [if_pos h2]; constructor <;> intro hh <;> omega
    · obtain rfl : k = s.length := by omega
      refine ⟨i, j, hij, hil, hjl, hti, htj, by rw [hatz, hat i hil, hat j hjl]; exact hz.symm, fun v hv => ?_⟩
      rw [hab v]
      rcases hall v hv with h2 | h2 | h2
      · have := h.up v h2
        have : v ≠ i := fun e => hi (e ▸ h2)
        have : v ≠ j := fun e => hj (e ▸ h2)
        rw [if_neg (by assumption), if_neg (by assumption)]
        constructor <;> intro hh <;> omega
      · subst h2
        split
        · simp
        · simp
      · subst h2
        simp
  · show mrg (W.drop p2) ((s ++ [z]).drop q2) = mrg ((rem W s p q).drop 2) [ln (rem W s p q) 0 + ln (rem W s p q) 1]
    rw [hrem, hdq]
    show mrg (W.drop p2) (s.drop q2 ++ [z]) = mrg (rem W s p2 q2) [ln s i + ln s j]
    rw [hz]
    have hr3 : Rise (s.drop q2 ++ [z]) := by
      unfold Rise
      rw [List.pairwise_append]
      have e : s.drop q2 = (s.drop n).drop (q2 - n) := by rw [List.drop_drop]; congr 1; omega
      refine ⟨by rw [e]; exact h.rise.drop _, List.pairwise_singleton _ _, fun a ha b hb => ?_⟩
      rw [List.mem_singleton] at hb
      rw [hb]
      exact hold a (hsub a ha)
    refine rise_eq (mrg_rise (hW.drop p2) hr3) (mrg_rise hrr.2.2 (List.pairwise_singleton _ _)) ?_
    refine (mrg_perm _ _).trans (List.Perm.trans ?_ (mrg_perm _ _).symm)
    rw [← List.append_assoc]
    exact (mrg_perm (W.drop p2) (s.drop q2)).symm.append_right [z]
  · rw [hrem]; exact hz

/-- Of numbers that add up at each pair, those of the leaves. -/
theorem Wood.adds {W s ab : List Nat} {n q : Nat} (h : Wood W n s n q ab) (hq : q + 1 = s.length) (f g : Nat → Nat)
    (hf : ∀ k a b, n ≤ k → k < s.length → a < k → b < k → Tk n n q a → Tk n n q b → ln ab a = k → ln ab b = k → ln s k = ln s a + ln s b → f a + f b = f k + g k) : sumTo n f = f q + sumTo (s.length - n) (fun i => g (n + i)) := by
  have hnq := h.nq
  have hup : ∀ v, v < q → n ≤ ln ab v ∧ ln ab v ≤ q ∧ v < ln ab v := fun v hv => by
    have := h.up v (by unfold Tk; omega)
    omega
  have two : ∀ m (a b : Nat), a ≠ b → a < m → b < m → sumTo m (fun v => if v = a ∨ v = b then f v else 0) = f a + f b := by
    intro m
    induction m with
    | zero => intro a b _ h1; omega
    | succ m ih =>
      intro a b hab ha hb
      have one : ∀ (m c : Nat), c < m → sumTo m (fun v => if v = c then f v else 0) = f c := by
        intro m
        induction m with
        | zero => intro c hc; omega
        | succ m ih2 =>
          intro c hc
          rw [sumTo]
          rcases Nat.lt_or_ge c m with h1 | h1
          · rw [ih2 c h1, if_neg (by omega), Nat.add_zero]
          · obtain rfl : c = m := by omega
            rw [if_pos rfl, sumTo_congr (g := fun _ => 0) (fun i hi => if_neg (by omega)), sumTo_const, Nat.mul_zero, Nat.zero_add]
      rw [sumTo]
      by_cases h1 : a = m
      · subst h1
        rw [if_pos (.inl rfl), sumTo_congr (g := fun v => if v = b then f v else 0) (fun i hi => by
          by_cases h2 : i = b
          · rw [if_pos (.inr h2), if_pos h2]
          · rw [if_neg (by omega), if_neg h2]), one a b (by omega), Nat.add_comm]
      · by_cases h2 : b = m
        · subst h2
          rw [if_pos (.inr rfl), sumTo_congr (g := fun v => if v = a then f v else 0) (fun i hi => by
            by_cases h3 : i = a
            · rw [if_pos (.inl h3), if_pos h3]
            · rw [if_neg (by omega), if_neg h3]), one b a (by omega)]
        · rw [if_neg (by omega), ih a b hab (by omega) (by omega), Nat.add_zero]
  have shift : ∀ (d : Nat) (F : Nat → Nat), sumTo (d + 1) F = F 0 + sumTo d (fun i => F (i + 1)) := by
    intro d F
    induction d with
    | zero => simp [sumTo]
    | succ d ih => rw [sumTo, ih, sumTo]; omega
  have hu : ∀ v, v < q → (if v = q then q + 1 else ln ab v) = ln ab v := fun v hv => if_neg (by omega)
  have main : ∀ d k, k + d = q + 1 → n ≤ k → sumTo k (fun v => if k ≤ (if v = q then q + 1 else ln ab v) then f v else 0) = f q + sumTo d (fun i => g (k + i)) := by
    intro d
    induction d with
    | zero =>
      intro k hk _
      obtain rfl : k = q + 1 := by omega
      show sumTo q (fun v => if q + 1 ≤ (if v = q then q + 1 else ln ab v) then f v else 0) + (if q + 1 ≤ (if q = q then q + 1 else ln ab q) then f q else 0) = f q + 0
      rw [if_pos (show q + 1 ≤ (if q = q then q + 1 else ln ab q) by rw [if_pos rfl]; exact Nat.le_refl _), sumTo_congr (g := fun _ => 0) (fun v hv => by rw [hu v hv, if_neg (by have := hup v hv; omega)]), sumTo_const, Nat.mul_zero]
      omega
    | succ d ih =>
      intro k hk hnk
      have h1 := ih (k + 1) (by omega) (by omega)
      have hkq : k ≤ q := by omega
      obtain ⟨a, b, e1, e2, e3, e4, e5, e6, e7⟩ := h.pair k hnk (by omega)
      have h2 := hf k a b hnk (by omega) e2 e3 e4 e5 ((e7 a e4).2 (.inl rfl)) ((e7 b e5).2 (.inr rfl)) e6
      have hkk : k + 1 ≤ (if k = q then q + 1 else ln ab k) := by
        split
        · omega
        · have := hup k (by omega); omega
      rw [sumTo, if_pos hkk] at h1
      have h3 : sumTo k (fun v => if k ≤ (if v = q then q + 1 else ln ab v) then f v else 0) = sumTo k (fun v => if k + 1 ≤ (if v = q then q + 1 else ln ab v) then f v else 0) + sumTo k (fun v => if v = a ∨ v = b then f v else 0) := by
        rw [← sumTo_add]
        refine sumTo_congr fun v hv => ?_
        rw [hu v (by omega)]
        have h4 := e7 v (by unfold Tk; omega)
        by_cases h5 : v = a ∨ v = b
        · rw [if_pos (by have := h4.2 h5; omega), if_neg (by have := h4.2 h5; omega), if_pos h5, Nat.zero_add]
        · rw [if_neg h5, Nat.add_zero]
          have h6 : ln ab v ≠ k := fun e => h5 (h4.1 e)
          by_cases h7 : k + 1 ≤ ln ab v
          · rw [if_pos (by omega), if_pos h7]
          · rw [if_neg (by omega), if_neg h7]
      have h10 : sumTo d (fun i => g (k + (i + 1))) = sumTo d (fun i => g (k + 1 + i)) := sumTo_congr fun i _ => by rw [show k + (i + 1) = k + 1 + i from by omega]
      rw [h3, two k a b e1 e2 e3, shift d (fun i => g (k + i)), h10, h2, ← Nat.add_assoc, h1, Nat.add_assoc, Nat.add_comm (sumTo d _) (g k)]
      rfl
  have h9 := main (s.length - n) n (by omega) (Nat.le_refl _)
  rw [← h9]
  refine sumTo_congr fun v hv => ?_
  rw [hu v (by omega), if_pos (hup v (by omega)).1]

theorem Wood.done {W s ab : List Nat} {n p q : Nat} (h : Wood W n s p q ab) (hs : s.length = 2 * n - 1) (hn2 : 2 ≤ n) : p = n ∧ q + 1 = s.length := by
  have := h.last
  have := h.num
  have := h.pn
  have := h.nq
  have := h.qs
  omega
/-- The sums of the pairs are the document's. -/
theorem hsum_zero (l : List Nat) : hsum 0 l = 0 := rfl
/-- How deep nodes stand. -/
structure Deep (n q : Nat) (ab D : List Nat) : Prop where
  root : ln D q = 0
  node : ∀ v, v < q → ln D v = ln D (ln ab v) + 1
theorem Deep.low {W s ab D : List Nat} {n q : Nat} (h : Wood W n s n q ab) (hq : q + 1 = s.length) (hd : Deep n q ab D) : ∀ d v, v + d = q → n ≤ v → ln D v ≤ d := by
  intro d
  induction d using Nat.strongRecOn with
  | ind d ih =>
    intro v hv hn
    rcases Nat.lt_or_ge v q with h1 | h1
    · have h2 := h.up v (by unfold Tk; omega)
      rw [hd.node v h1]
      have := ih (q - ln ab v) (by omega) (ln ab v) (by omega) (by omega)
      omega
    · obtain rfl : v = q := by omega
      rw [hd.root]
      omega
theorem Deep.leaf {W s ab D : List Nat} {n q : Nat} (h : Wood W n s n q ab) (hq : q + 1 = s.length) (hs : s.length = 2 * n - 1) (hn2 : 2 ≤ n) (hd : Deep n q ab D) (v : Nat) (hv : v < n) : 0 < ln D v ∧ ln D v ≤ n - 1 := by
  have h2 := h.up v (by unfold Tk; omega)
  rw [hd.node v (by omega)]
  have := Deep.low h hq hd (q - ln ab v) (ln ab v) (by omega) (by omega)
  omega
theorem Deep.full {W s ab D : List Nat} {n q : Nat} (h : Wood W n s n q ab) (hq : q + 1 = s.length) (hs : s.length = 2 * n - 1) (hn2 : 2 ≤ n) (hn40 : n ≤ 40) (hd : Deep n q ab D) : sumTo n (fun v => 2 ^ (40 - ln D v)) = 2 ^ 40 := by
  have h1 := h.adds hq (fun v => 2 ^ (40 - ln D v)) (fun _ => 0) (fun k a b hk1 hk2 ha hb _ _ hka hkb _ => by
    have h2 := Deep.low h hq hd (q - k) k (by omega) hk1
    have ea := hd.node a (by omega)
    have eb := hd.node b (by omega)
    rw [hka] at ea
    rw [hkb] at eb
    show 2 ^ (40 - ln D a) + 2 ^ (40 - ln D b) = 2 ^ (40 - ln D k) + 0
    rw [ea, eb, show 40 - ln D k = (40 - (ln D k + 1)) + 1 from by omega, Nat.pow_succ]
    omega)
  rw [h1, hd.root, sumTo_const]
  simp
theorem Deep.cost {W s ab D : List Nat} {n q : Nat} (h : Wood W n s n q ab) (hq : q + 1 = s.length) (hd : Deep n q ab D) : sumTo n (fun v => ln W v * ln D v) = (s.drop n).sum := by
  have h1 := h.adds hq (fun v => ln s v * ln D v) (fun k => ln s k) (fun k a b hk1 hk2 ha hb _ _ hka hkb hs => by
    have ea := hd.node a (by omega)
    have eb := hd.node b (by omega)
    rw [hka] at ea
    rw [hkb] at eb
    show ln s a * ln D a + ln s b * ln D b = ln s k * ln D k + ln s k
    rw [ea, eb, hs, ← Nat.add_mul, Nat.mul_add, Nat.mul_one])
  rw [sumTo_congr (g := fun v => ln s v * ln D v) (fun v hv => by rw [h.leaf v hv]), h1, hd.root, Nat.mul_zero, Nat.zero_add]
  have h2 := take_sum (s.drop n) (s.length - n) (by simp)
  rw [List.take_of_length_le (by simp)] at h2
  rw [h2]
  exact sumTo_congr fun i _ => by simp [ln]
/-- The lengths of the tree's leaves fit. -/
theorem tree_good {c ss s ab D : List Nat} {q : Nat} (hp : ss.Perm (syms c c.length)) (h40 : ss.length ≤ 40) (hn2 : 2 ≤ ss.length) (h : Wood (ss.map (ln c)) ss.length s ss.length q ab) (hq : q + 1 = s.length) (hs : s.length = 2 * ss.length - 1) (hd : Deep ss.length q ab D) (hDl : ss.length ≤ D.length)
    (hsum : (s.drop ss.length).sum = hsum (ss.length - 1) (ss.map (ln c))) : Good c (fit c.length ss (D.take ss.length) ss.length) 40 40 (freeOf (ss.map (ln c))) := by
  have hat : ∀ i, i < ss.length → ln (D.take ss.length) i = ln D i := fun i hi => by simp [ln, hi]
  have hl := fun v hv => Deep.leaf h hq hs hn2 hd v hv
  refine good_of hp (by omega) (by simp; omega) (fun i => ?_) (fun _ => ⟨fun i hi => by rw [hat i hi]; exact (hl i hi).1, ?_⟩) (fun h1 => by omega) ?_
  · rcases Nat.lt_or_ge i ss.length with h1 | h1
    · rw [hat i h1]
      have := (hl i h1).2
      omega
    · have : ln (D.take ss.length) i = 0 := by
        unfold ln
        rw [List.getD_eq_getElem?_getD, List.getElem?_eq_none (by simp; omega)]
        rfl
      omega
  · rw [← Deep.full h hq hs hn2 h40 hd]
    exact sumTo_congr fun i hi => by rw [hat i hi]
  · unfold freeOf
    rw [if_neg (by rw [List.length_map]; omega), List.length_map, ← hsum, ← Deep.cost h hq hd]
    refine sumTo_congr fun i hi => ?_
    rw [hat i hi, Nat.max_eq_left (hl i hi).1]
theorem few_good {c ss : List Nat} (hp : ss.Perm (syms c c.length)) (h2 : ss.length < 2) : Good c (fit c.length ss (List.replicate ss.length 0) ss.length) 40 40 (freeOf (ss.map (ln c))) := by
  have hl : (ss.map (ln c)).length = ss.length := List.length_map ..
  have hz : ∀ i, ln (List.replicate ss.length 0) i = 0 := fun i => by simp [ln, List.getElem?_replicate]; split <;> rfl
  refine good_of hp (by omega) (by simp) (fun i => by rw [hz]; omega) (fun h => by omega) (fun _ => by rw [hz]; omega) ?_
  unfold freeOf
  rw [if_pos (by rw [hl]; exact h2), ← List.take_length (l := ss.map (ln c)), take_sum _ _ (Nat.le_refl _), hl]
  refine sumTo_congr fun i _ => ?_
  rw [hz, List.take_of_length_le (by rw [hl]; exact Nat.le_refl _)]
  simp
end Go.Proofs.Ytjbohidkjlnalaa
