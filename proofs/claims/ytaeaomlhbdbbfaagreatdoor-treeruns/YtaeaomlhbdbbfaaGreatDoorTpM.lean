/- Layer 15, the landed program in plain words. -/
import Derived.Test.YtaeaomlhbdbbfaaGreatDoorTnR
/- Layer 15, the landed program in plain words: where a path stands among nodes in order, what is under it, what is put there. -/
namespace Go.Proofs.YtaeaomlhbdbbfaaGreatDoor
open Go.RowKit

/-- How many stand ahead of a path. -/
def posT : List Nd → List UInt8 → Nat
  | [], _ => 0
  | n :: r, p => if cmpF (partsF n.path) (partsF p) < 0 then posT r p + 1 else 0
theorem pos_le (p : List UInt8) : ∀ ps : List Nd, posT ps p ≤ ps.length
  | [] => Nat.le_refl _
  | n :: r => by
    rw [posT]
    have := pos_le p r
    split <;> simp <;> omega
theorem srt_getD : ∀ {ps : List Nd}, Srt ps → ∀ {i j : Nat}, i < j → j < ps.length → lessP (ps.getD i nd0).path (ps.getD j nd0).path
  | [], _, i, j, _, hj => by cases hj
  | n :: r, hs, 0, j + 1, _, hj => by
    rw [List.length_cons] at hj
    exact (List.pairwise_cons.1 hs).1 _ (getD_mem nd0 r j (by omega))
  | n :: r, hs, i + 1, j + 1, h, hj => by
    rw [List.length_cons] at hj
    exact srt_getD (List.pairwise_cons.1 hs).2 (by omega) (by omega)
/-- A place with all that is less ahead, and nothing less behind, is the place. -/
theorem pos_of (p : List UInt8) : ∀ (ps : List Nd) (k : Nat), k ≤ ps.length → (∀ i, i < k → lessP (ps.getD i nd0).path p) → (∀ i, k ≤ i → i < ps.length → ¬ lessP (ps.getD i nd0).path p) → posT ps p = k
  | [], k, hk, _, _ => by simp at hk; rw [hk]; rfl
  | n :: r, 0, _, _, h2 => by
    rw [posT, if_neg (show ¬ cmpF (partsF n.path) (partsF p) < 0 from h2 0 (Nat.le_refl _) (by simp))]
  | n :: r, k + 1, hk, h1, h2 => by
    rw [posT, if_pos (show cmpF (partsF n.path) (partsF p) < 0 from h1 0 (by omega)), pos_of p r k (by simpa using hk) (fun i hi => h1 (i + 1) (by omega)) fun i hi hl => h2 (i + 1) (by omega) (by simp; omega)]
theorem pos_less (p : List UInt8) : ∀ (ps : List Nd) (i : Nat), i < posT ps p → lessP (ps.getD i nd0).path p
  | [], i, h => by cases h
  | n :: r, i, h => by
    rw [posT] at h
    split at h
    · rename_i hl
      cases i with
      | zero => exact hl
      | succ i => exact pos_less p r i (by omega)
    · omega
theorem pos_more {ps : List Nd} (hs : Srt ps) (p : List UInt8) {i : Nat} (h1 : posT ps p ≤ i) (h2 : i < ps.length) : ¬ lessP (ps.getD i nd0).path p := by
  have h0 : posT ps p < ps.length → ¬ lessP (ps.getD (posT ps p) nd0).path p := by
    clear h1 h2 hs
    induction ps with
    | nil => intro h; cases h
    | cons n r ih =>
      intro h
      rw [posT] at h ⊢
      by_cases hl : cmpF (partsF n.path) (partsF p) < 0
      · rw [if_pos hl] at h ⊢
        exact ih (by simp at h; omega)
      · rw [if_neg hl]
        exact hl
  intro hl
  rcases Nat.lt_or_ge (posT ps p) i with g | g
  · exact h0 (by omega) (less_trans (srt_getD hs g h2) hl)
  · obtain rfl : i = posT ps p := by omega
    exact h0 h2 hl
/-- Is one there? -/
def thereT (ps : List Nd) (p : List UInt8) : Bool := decide (posT ps p < ps.length) && decide ((ps.getD (posT ps p) nd0).path = p)
theorem there_iff (ps : List Nd) (p : List UInt8) : thereT ps p = true ↔ posT ps p < ps.length ∧ (ps.getD (posT ps p) nd0).path = p := by
  rw [thereT, Bool.and_eq_true, decide_eq_true_eq, decide_eq_true_eq]
theorem at_there {ps : List Nd} {p : List UInt8} (h : thereT ps p = true) : atG p ps = some (posT ps p) := by
  obtain ⟨h1, h2⟩ := (there_iff ps p).1 h
  refine at_step p ps _ h1 (fun k hk e => ?_) h2
  have := pos_less p ps k hk
  rw [e] at this
  exact less_irrefl _ this
theorem no_there {ps : List Nd} (hs : Srt ps) {p : List UInt8} (h : thereT ps p = false) : ∀ k, k < ps.length → (ps.getD k nd0).path ≠ p := by
  intro k hk e
  have hp : posT ps p ≤ k := by
    rcases Nat.lt_or_ge k (posT ps p) with g | g
    · have := pos_less p ps k g
      rw [e] at this
      exact (less_irrefl _ this).elim
    · exact g
  have hh : ¬ thereT ps p = true := by rw [h]; decide
  rcases Nat.lt_or_ge (posT ps p) k with g | g
  · have h1 := srt_getD hs g hk
    rw [e] at h1
    exact pos_more hs p (Nat.le_refl _) (by omega) h1
  · obtain rfl : k = posT ps p := by omega
    exact hh ((there_iff ps p).2 ⟨hk, e⟩)
theorem at_no {ps : List Nd} (hs : Srt ps) {p : List UInt8} (h : thereT ps p = false) : atG p ps = none := at_none p ps (no_there hs h)
theorem isDir_pos {ps : List Nd} (hs : Srt ps) (p : List UInt8) : isDirT ps p = (thereT ps p && (ps.getD (posT ps p) nd0).dir) := by
  unfold isDirT
  cases h : thereT ps p with
  | true => rw [at_there h]; rfl
  | false => rw [at_no hs h]; rfl
theorem got_pos {ps : List Nd} (hs : Srt ps) (p : List UInt8) : gotT ps p = if thereT ps p = true then (ps.getD (posT ps p) nd0, true) else (nd0, false) := by
  unfold gotT
  cases h : thereT ps p with
  | true => rw [at_there h]; rfl
  | false => rw [at_no hs h]; rfl
/-- Lists in order of the same nodes are the same. -/
theorem srt_ext : ∀ {a b : List Nd}, Srt a → Srt b → (∀ x, x ∈ a ↔ x ∈ b) → a = b
  | [], [], _, _, _ => rfl
  | [], y :: s, _, _, h => by cases (h y).2 List.mem_cons_self
  | x :: r, [], _, _, h => by cases (h x).1 List.mem_cons_self
  | x :: r, y :: s, ha, hb, h => by
    obtain ⟨a1, a2⟩ := List.pairwise_cons.1 ha
    obtain ⟨b1, b2⟩ := List.pairwise_cons.1 hb
    have e : x = y := by
      rcases List.mem_cons.1 ((h x).1 List.mem_cons_self) with e | e
      · exact e
      · rcases List.mem_cons.1 ((h y).2 List.mem_cons_self) with e2 | e2
        · exact e2.symm
        · exact (less_not (a1 y e2) (b1 x e)).elim
    subst e
    rw [srt_ext a2 b2 fun z => ?_]
    constructor
    · intro hz
      rcases List.mem_cons.1 ((h z).1 (List.mem_cons_of_mem _ hz)) with e | e
      · have := a1 z hz
        rw [e] at this
        exact (less_irrefl _ this).elim
      · exact e
    · intro hz
      rcases List.mem_cons.1 ((h z).2 (List.mem_cons_of_mem _ hz)) with e | e
      · have := b1 z hz
        rw [e] at this
        exact (less_irrefl _ this).elim
      · exact e
/-- A node put in its place. -/
theorem set_pos {ps : List Nd} (hs : Srt ps) (n : Nd) : setT ps n = if thereT ps n.path = true then ps.set (posT ps n.path) n else ps.take (posT ps n.path) ++ n :: ps.drop (posT ps n.path) := by
  induction ps with
  | nil => rfl
  | cons m r ih =>
    obtain ⟨h1, h2⟩ := List.pairwise_cons.1 hs
    have ih := ih h2
    unfold setT at ih ⊢
    rcases less_cases m.path n.path with hl | he | hg
    · have h3 : cmpF (partsF m.path) (partsF n.path) < 0 := hl
      have c1 : decide (0 ≤ cmpF (partsF m.path) (partsF n.path)) = false := decide_eq_false (by omega)
      have e1 : posT (m :: r) n.path = posT r n.path + 1 := by rw [posT, if_pos h3]
      have e2 : thereT (m :: r) n.path = thereT r n.path := by
        unfold thereT
        rw [e1, List.length_cons, List.getD_cons_succ, show decide (posT r n.path + 1 < r.length + 1) = decide (posT r n.path < r.length) from by simp]
      rw [setG, if_neg (fun h => by rw [c1] at h; cases h.1), if_neg (by omega), Bool.false_or, c1, ih, e1, e2]
      by_cases ht : thereT r n.path = true
      · rw [if_pos ht, if_pos ht]; rfl
      · rw [if_neg ht, if_neg ht]; rfl
    · have c0 : cmpF (partsF m.path) (partsF n.path) = 0 := cmp_path.2 he
      have hr : ∀ x ∈ r, lessP n.path x.path := fun x hx => by rw [← he]; exact h1 x hx
      have e1 : posT (m :: r) n.path = 0 := by rw [posT, if_neg (by omega)]
      have e2 : thereT (m :: r) n.path = true := (there_iff _ _).2 (by rw [e1]; exact ⟨by simp, he⟩)
      rw [setG, c0, if_pos ⟨by decide, rfl⟩, if_pos rfl, e2, if_pos rfl, e1]
      show [n] ++ ([] ++ setG n r true) = _
      rw [setG_done n r hr]
      rfl
    · have hpos : 0 < cmpF (partsF m.path) (partsF n.path) := by
        have h3 : cmpF (partsF n.path) (partsF m.path) < 0 := hg
        rw [cmp_anti] at h3
        omega
      have hr : ∀ x ∈ r, lessP n.path x.path := fun x hx => less_trans hg (h1 x hx)
      have e1 : posT (m :: r) n.path = 0 := by rw [posT, if_neg (by omega)]
      have e2 : ¬ thereT (m :: r) n.path = true := fun h => by
        have := ((there_iff _ _).1 h).2
        rw [e1] at this
        have hg2 : lessP n.path m.path := hg
        rw [show (m :: r).getD 0 nd0 = m from rfl] at this
        rw [this] at hg2
        exact less_irrefl _ hg2
      rw [setG, if_pos ⟨decide_eq_true (Int.le_of_lt hpos), rfl⟩, if_neg (by omega), decide_eq_true (Int.le_of_lt hpos), if_neg e2, e1]
      show [n] ++ ([m] ++ setG n r true) = _
      rw [setG_done n r hr]
      rfl
/-- What lies between a path and one under it is under it. -/
theorem cmp_between : ∀ (p y c : List (List UInt8)), cmpF p y < 0 → cmpF y (p ++ c) ≤ 0 → ∃ d, d ≠ [] ∧ y = p ++ d
  | [], [], c, h, _ => by cases h
  | [], y :: r, c, _, _ => ⟨y :: r, by simp, rfl⟩
  | a :: p, [], c, h, _ => by cases h
  | a :: p, b :: y, c, h1, h2 => by
    have k1 := (cmp_cons a b p y).2.1 h1
    have k2 := (cmp_cons b a y (p ++ c)).1.1 h2
    have e : a = b ∧ cmpF p y < 0 ∧ cmpF y (p ++ c) ≤ 0 := by
      rcases k1 with g1 | ⟨g1, g2⟩
      · rcases k2 with q1 | ⟨q1, q2⟩
        · have := (cmp_cons a b [] []).2.2 (.inl g1)
          have t2 := (cmp_cons b a [] []).2.2 (.inl q1)
          rw [cmp_anti] at t2
          omega
        · rw [q1] at g1
          have := (cmp_cons a a [] []).2.2 (.inl g1)
          rw [cmp_refl] at this
          omega
      · rcases k2 with q1 | ⟨q1, q2⟩
        · rw [g1] at q1
          have := (cmp_cons b b [] []).2.2 (.inl q1)
          rw [cmp_refl] at this
          omega
        · exact ⟨g1, g2, q2⟩
    obtain ⟨rfl, g2, q2⟩ := e
    obtain ⟨d, hd, rfl⟩ := cmp_between p y c g2 q2
    exact ⟨d, hd, rfl⟩
theorem under_between {p y z : List UInt8} (h1 : lessP p y) (h2 : lessP y z) (hz : underF (partsF z) (partsF p) = true) : underF (partsF y) (partsF p) = true := by
  obtain ⟨c, _, e⟩ := (under_iff _ _).1 hz
  have h3 : cmpF (partsF y) (partsF z) < 0 := h2
  rw [e] at h3
  exact (under_iff _ _).2 (cmp_between _ _ c h1 (by omega))
end Go.Proofs.YtaeaomlhbdbbfaaGreatDoor

/- Layer 15, the landed program in plain words: what is under a path stands in one piece; directories are ensured from the shortest. -/
namespace Go.Proofs.YtaeaomlhbdbbfaaGreatDoor
open Go.RowKit

/-- How many of the first are under a path. -/
def spanT (p : List UInt8) : List Nd → Nat
  | [] => 0
  | n :: r => if underF (partsF n.path) (partsF p) = true then spanT p r + 1 else 0
theorem span_le (p : List UInt8) : ∀ l : List Nd, spanT p l ≤ l.length
  | [] => Nat.le_refl _
  | n :: r => by
    rw [spanT, List.length_cons]
    have := span_le p r
    split <;> omega
theorem span_in (p : List UInt8) : ∀ (l : List Nd) (i : Nat), i < spanT p l → underF (partsF (l.getD i nd0).path) (partsF p) = true
  | [], i, h => by cases h
  | n :: r, i, h => by
    rw [spanT] at h
    split at h
    · rename_i hu
      cases i with
      | zero => exact hu
      | succ i => exact span_in p r i (by omega)
    · omega
theorem span_end (p : List UInt8) : ∀ (l : List Nd), spanT p l < l.length → ¬ underF (partsF (l.getD (spanT p l) nd0).path) (partsF p) = true
  | [], h => by cases h
  | n :: r, h => by
    rw [spanT, List.length_cons] at h
    rw [spanT]
    by_cases hu : underF (partsF n.path) (partsF p) = true
    · rw [if_pos hu] at h ⊢
      exact span_end p r (by omega)
    · rw [if_neg hu]
      exact hu
theorem span_of (p : List UInt8) : ∀ (l : List Nd) (k : Nat), k ≤ l.length → (∀ i, i < k → underF (partsF (l.getD i nd0).path) (partsF p) = true) → (k < l.length → ¬ underF (partsF (l.getD k nd0).path) (partsF p) = true) → spanT p l = k
  | [], k, hk, _, _ => by simp at hk; rw [hk]; rfl
  | n :: r, 0, _, _, h2 => by
    rw [spanT, if_neg (show ¬ underF (partsF n.path) (partsF p) = true from h2 (by simp))]
  | n :: r, k + 1, hk, h1, h2 => by
    rw [List.length_cons] at hk h2
    rw [spanT, if_pos (show underF (partsF n.path) (partsF p) = true from h1 0 (by omega)), span_of p r k (by omega) (fun i hi => h1 (i + 1) (by omega)) fun hl => h2 (by omega)]
/-- Where what is under a path begins, and where it ends. -/
def loT (ps : List Nd) (p : List UInt8) : Nat := if thereT ps p = true then posT ps p + 1 else posT ps p
def hiT (ps : List Nd) (p : List UInt8) : Nat := loT ps p + spanT p (ps.drop (loT ps p))
theorem lo_le (ps : List Nd) (p : List UInt8) : loT ps p ≤ ps.length := by
  unfold loT
  split
  · rename_i h
    exact ((there_iff ps p).1 h).1
  · exact pos_le p ps
theorem hi_le (ps : List Nd) (p : List UInt8) : hiT ps p ≤ ps.length := by
  have h1 := lo_le ps p
  have h2 := span_le p (ps.drop (loT ps p))
  rw [List.length_drop] at h2
  unfold hiT
  omega
theorem ndD_drop (l : List Nd) (k i : Nat) : (l.drop k).getD i nd0 = l.getD (k + i) nd0 := by
  rw [List.getD_eq_getElem?_getD, List.getElem?_drop, ← List.getD_eq_getElem?_getD]
theorem under_range {ps : List Nd} (hs : Srt ps) (p : List UInt8) {i : Nat} (hi : i < ps.length) : underF (partsF (ps.getD i nd0).path) (partsF p) = true ↔ loT ps p ≤ i ∧ i < hiT ps p := by
  have hpl : posT ps p ≤ loT ps p := by unfold loT; split <;> omega
  constructor
  · intro h
    have hl := under_less h
    have h1 : posT ps p ≤ i := by
      rcases Nat.lt_or_ge i (posT ps p) with g | g
      · exact (less_not (pos_less p ps i g) hl).elim
      · exact g
    have h2 : loT ps p ≤ i := by
      unfold loT
      split
      · rename_i ht
        rcases Nat.lt_or_ge (posT ps p) i with g | g
        · exact g
        · obtain rfl : i = posT ps p := by omega
          rw [((there_iff ps p).1 ht).2] at hl
          exact (less_irrefl _ hl).elim
      · exact h1
    refine ⟨h2, Nat.lt_of_not_le fun hh => ?_⟩
    have hle := hi_le ps p
    have hlo : loT ps p ≤ hiT ps p := by unfold hiT; omega
    have he : ¬ underF (partsF (ps.getD (hiT ps p) nd0).path) (partsF p) = true := by
      have := span_end p (ps.drop (loT ps p)) (by rw [List.length_drop]; unfold hiT at hh; omega)
      rw [ndD_drop] at this
      exact this
    rcases Nat.lt_or_ge (hiT ps p) i with g | g
    · refine he (under_between ?_ (srt_getD hs g hi) h)
      rcases less_cases p (ps.getD (hiT ps p) nd0).path with q | q | q
      · exact q
      · by_cases ht : thereT ps p = true
        · have h3 := srt_getD hs (show posT ps p < hiT ps p by unfold loT at hlo; rw [if_pos ht] at hlo; omega) (by omega)
          rw [((there_iff ps p).1 ht).2] at h3
          exact h3
        · exact (no_there hs (Bool.eq_false_iff.2 ht) (hiT ps p) (by omega) q.symm).elim
      · exact (pos_more hs p (by omega) (by omega) q).elim
    · obtain rfl : i = hiT ps p := by omega
      exact he h
  · rintro ⟨h1, h2⟩
    have := span_in p (ps.drop (loT ps p)) (i - loT ps p) (by unfold hiT at h2; omega)
    rw [ndD_drop, show loT ps p + (i - loT ps p) = i by omega] at this
    exact this
theorem mem_place {α : Type} (d : α) {l : List α} {x : α} (h : x ∈ l) : ∃ i, i < l.length ∧ l.getD i d = x := by
  obtain ⟨i, hi, e⟩ := List.mem_iff_getElem.1 h
  exact ⟨i, hi, by rw [List.getD_eq_getElem?_getD, List.getElem?_eq_getElem hi]; exact e⟩
theorem mem_front {α : Type} (d : α) {l : List α} {x : α} {k : Nat} (h : x ∈ l.take k) : ∃ i, i < k ∧ i < l.length ∧ l.getD i d = x := by
  obtain ⟨i, hi, e⟩ := mem_place d h
  rw [List.length_take] at hi
  refine ⟨i, by omega, by omega, ?_⟩
  rw [← e, List.getD_eq_getElem?_getD, List.getD_eq_getElem?_getD, List.getElem?_take, if_pos (by omega)]
theorem mem_back {α : Type} (d : α) {l : List α} {x : α} {k : Nat} (h : x ∈ l.drop k) : ∃ i, k ≤ i ∧ i < l.length ∧ l.getD i d = x := by
  obtain ⟨i, hi, e⟩ := mem_place d h
  rw [List.length_drop] at hi
  refine ⟨k + i, by omega, by omega, ?_⟩
  rw [← e, List.getD_eq_getElem?_getD, List.getD_eq_getElem?_getD, List.getElem?_drop]
theorem mem_mid {α : Type} (d : α) {l : List α} {x : α} {lo hi : Nat} (h : x ∈ (l.take hi).drop lo) : ∃ i, lo ≤ i ∧ i < hi ∧ i < l.length ∧ l.getD i d = x := by
  obtain ⟨i, h1, h2, e⟩ := mem_back d h
  rw [List.length_take] at h2
  refine ⟨i, h1, by omega, by omega, ?_⟩
  rw [← e, List.getD_eq_getElem?_getD, List.getD_eq_getElem?_getD, List.getElem?_take, if_pos (by omega)]
theorem three_pieces {α : Type} (l : List α) {lo hi : Nat} (h1 : lo ≤ hi) (h2 : hi ≤ l.length) : l = l.take lo ++ ((l.take hi).drop lo ++ l.drop hi) := by
  have e : l.drop lo = (l.take hi).drop lo ++ l.drop hi := by
    conv => lhs; rw [← List.take_append_drop hi l]
    rw [List.drop_append_of_le_length (by rw [List.length_take]; omega)]
  rw [← e, List.take_append_drop]
/-- What is struck out lies in one piece. -/
theorem filter_range {α : Type} (d : α) (q : α → Bool) (l : List α) {lo hi : Nat} (h1 : lo ≤ hi) (h2 : hi ≤ l.length) (h : ∀ i, i < l.length → (q (l.getD i d) = true ↔ ¬ (lo ≤ i ∧ i < hi))) : l.filter q = l.take lo ++ l.drop hi := by
  conv => lhs; rw [three_pieces l h1 h2]
  rw [List.filter_append, List.filter_append, List.filter_eq_self.2 fun x hx => ?_, List.filter_eq_nil_iff.2 fun x hx => ?_, List.nil_append, List.filter_eq_self.2 fun x hx => ?_]
  · obtain ⟨i, g1, g2, rfl⟩ := mem_back d hx
    exact (h i g2).2 (by omega)
  · obtain ⟨i, g1, g2, g3, rfl⟩ := mem_mid d hx
    exact fun g => (h i g3).1 g ⟨g1, g2⟩
  · obtain ⟨i, g1, g2, rfl⟩ := mem_front d hx
    exact (h i g2).2 (by omega)
/-- What is chosen lies in one piece. -/
theorem filter_piece {α : Type} (d : α) (q : α → Bool) (l : List α) {lo hi : Nat} (h1 : lo ≤ hi) (h2 : hi ≤ l.length) (h : ∀ i, i < l.length → q (l.getD i d) = true → lo ≤ i ∧ i < hi) : l.filter q = ((l.take hi).drop lo).filter q := by
  conv => lhs; rw [three_pieces l h1 h2]
  rw [List.filter_append, List.filter_append, List.filter_eq_nil_iff.2 fun x hx => ?_, List.filter_eq_nil_iff (l := l.drop hi).2 fun x hx => ?_, List.nil_append, List.append_nil]
  · obtain ⟨i, g1, g2, rfl⟩ := mem_back d hx
    exact fun g => by have := h i g2 g; omega
  · obtain ⟨i, g1, g2, rfl⟩ := mem_front d hx
    exact fun g => by have := h i g2 g; omega
theorem parts_ne {p : List UInt8} (h : p ≠ []) : partsF p = splitF p := if_neg h
theorem goes_under {p : List UInt8} {n : Nd} (hn : n.path ≠ []) : goes p false n = underF (partsF n.path) (partsF p) := by
  unfold goes
  by_cases hp : p = []
  · subst hp
    have : underF (partsF n.path) (partsF []) = true := (under_iff _ _).2 ⟨partsF n.path, by rw [parts_ne hn]; exact split_ne _, rfl⟩
    rw [this]
    simp
  · simp [hp]
theorem goes_self {p : List UInt8} (hp : p ≠ []) (n : Nd) : goes p true n = (decide (n.path = p) || underF (partsF n.path) (partsF p)) := by
  unfold goes
  simp [hp]
theorem lo_hi (ps : List Nd) (p : List UInt8) : loT ps p ≤ hiT ps p := by unfold hiT; omega
theorem drop_range {ps : List Nd} (hs : Srt ps) (hne : ∀ n ∈ ps, n.path ≠ []) (p : List UInt8) : dropT ps p false = ps.take (loT ps p) ++ ps.drop (hiT ps p) := by
  refine filter_range nd0 _ ps (lo_hi ps p) (hi_le ps p) fun i hi => ?_
  rw [goes_under (hne _ (getD_mem nd0 ps i hi)), Bool.not_eq_true', ← under_range hs p hi, Bool.not_eq_true]
theorem path_pos {ps : List Nd} (hs : Srt ps) {p : List UInt8} (ht : thereT ps p = true) {i : Nat} (hi : i < ps.length) : (ps.getD i nd0).path = p ↔ i = posT ps p := by
  obtain ⟨h1, h2⟩ := (there_iff ps p).1 ht
  constructor
  · intro e
    rcases Nat.lt_trichotomy i (posT ps p) with g | g | g
    · have := pos_less p ps i g
      rw [e] at this
      exact (less_irrefl _ this).elim
    · exact g
    · have := srt_getD hs g hi
      rw [e, h2] at this
      exact (less_irrefl _ this).elim
  · rintro rfl
    exact h2
theorem drop_self {ps : List Nd} (hs : Srt ps) {p : List UInt8} (hp : p ≠ []) (ht : thereT ps p = true) : dropT ps p true = ps.take (posT ps p) ++ ps.drop (hiT ps p) := by
  have hlo : loT ps p = posT ps p + 1 := if_pos ht
  have hlh := lo_hi ps p
  refine filter_range nd0 _ ps (by omega) (hi_le ps p) fun i hi => ?_
  rw [goes_self hp, Bool.not_eq_true', Bool.or_eq_false_iff, decide_eq_false_iff_not, path_pos hs ht hi, ← Bool.not_eq_true, under_range hs p hi]
  omega
/-- What stands right above what is under a path. -/
theorem under_up {x p : List UInt8} (hx : rightF x = true) (hp : p ≠ []) (h : underF (partsF x) (partsF p) = true) : (parentF x).2 = true ∧ ((parentF x).1 = p ∨ underF (partsF (parentF x).1) (partsF p) = true) := by
  obtain ⟨c, hc, e⟩ := (under_iff _ _).1 h
  rw [parts_ne (right_ne hx), parts_ne hp] at e
  have hq : (parentF x).2 = true := by
    cases hl : lstF x x.length with
    | some k => unfold parentF; rw [hl]; rfl
    | none =>
      have h1 := lst_no47 x x.length hl
      rw [split_one x fun b hb => by
        obtain ⟨i, hi, rfl⟩ := mem_place (0 : UInt8) hb
        exact h1 i hi] at e
      have h2 := congrArg List.length e
      rw [List.length_append, List.length_singleton] at h2
      have h3 := List.length_pos_iff.2 hc
      have h4 := List.length_pos_iff.2 (split_ne p)
      omega
  refine ⟨hq, ?_⟩
  obtain ⟨b, hb⟩ := parent_parts x hq
  have hne := parent_ne hx hq
  rw [hb] at e
  obtain ⟨c', b', rfl⟩ : ∃ c' b', c = c' ++ [b'] := ⟨c.dropLast, c.getLast hc, (List.dropLast_concat_getLast hc).symm⟩
  rw [← List.append_assoc] at e
  have e2 := (List.append_inj' e rfl).1
  by_cases hc' : c' = []
  · subst hc'
    rw [List.append_nil] at e2
    exact .inl (parts_inj (by rw [parts_ne hne, parts_ne hp, e2]))
  · exact .inr ((under_iff _ _).2 ⟨c', hc', by rw [parts_ne hne, parts_ne hp, e2]⟩)
theorem right_under (N : Nat) : ∀ {x p : List UInt8}, x.length < N → rightF x = true → p ≠ [] → underF (partsF x) (partsF p) = true → rightF p = true := by
  induction N with
  | zero => intro x p h; omega
  | succ N ih =>
    intro x p hN hx hp h
    obtain ⟨h1, h2⟩ := under_up hx hp h
    have hl := parent_lt x h1
    have hr := right_parent hx h1
    rcases h2 with e | e
    · rw [← e]; exact hr
    · exact ih (by omega) hr hp e
/-- Nothing is under what isn't a directory. -/
theorem no_under {ps : List Nd} (hf : Form ps) {p : List UInt8} (hp : p ≠ []) (hd : isDirT ps p = false) (N : Nat) : ∀ x ∈ ps, x.path.length < N → ¬ underF (partsF x.path) (partsF p) = true := by
  induction N with
  | zero => intro x _ h; omega
  | succ N ih =>
    intro x hx hN h
    obtain ⟨h1, h2⟩ := under_up (hf.may x hx).1 hp h
    have hl := parent_lt x.path h1
    obtain ⟨d, hd1, hd2, hd3⟩ := hf.par x hx h1
    rcases h2 with e | e
    · have := (isDir_iff hf.srt p).2 ⟨d, hd1, by rw [hd2, e], hd3⟩
      rw [this] at hd
      cases hd
    · rw [← hd2] at e hl
      exact ih d hd1 (by omega) e
theorem set_drop2 {ps : List Nd} (hs : Srt ps) {n : Nd} (hp : n.path ≠ []) : setT (dropT ps n.path false) n = setT (dropT ps n.path true) n := by
  refine srt_ext (set_srt n (drop_srt _ _ hs)) (set_srt n (drop_srt _ _ hs)) fun x => ?_
  rw [set_iff n (drop_srt _ _ hs), set_iff n (drop_srt _ _ hs), drop_iff, drop_iff]
  have e : x.path ≠ n.path → goes n.path false x = goes n.path true x := fun h => by
    unfold goes
    simp [h, hp]
  constructor
  · rintro (h | ⟨⟨h1, h2⟩, h3⟩)
    · exact .inl h
    · exact .inr ⟨⟨h1, by rw [← e h3]; exact h2⟩, h3⟩
  · rintro (h | ⟨⟨h1, h2⟩, h3⟩)
    · exact .inl h
    · exact .inr ⟨⟨h1, by rw [e h3]; exact h2⟩, h3⟩
theorem set_drop {ps : List Nd} (hf : Form ps) {n : Nd} (hp : n.path ≠ []) (hd : isDirT ps n.path = false) : setT (dropT ps n.path true) n = setT ps n := by
  refine srt_ext (set_srt n (drop_srt _ _ hf.srt)) (set_srt n hf.srt) fun x => ?_
  rw [set_iff n (drop_srt _ _ hf.srt), set_iff n hf.srt, drop_iff]
  constructor
  · rintro (h | ⟨⟨h1, h2⟩, h3⟩)
    · exact .inl h
    · exact .inr ⟨h1, h3⟩
  · rintro (h | ⟨h1, h3⟩)
    · exact .inl h
    · refine .inr ⟨⟨h1, ?_⟩, h3⟩
      rw [goes_self hp, decide_eq_false h3, Bool.false_or]
      exact Bool.eq_false_iff.2 (no_under hf hp hd _ x h1 (Nat.lt_succ_self _))
theorem drop_none {ps : List Nd} (hf : Form ps) {p : List UInt8} (hp : p ≠ []) (ht : thereT ps p = false) : dropT ps p true = ps := by
  refine List.filter_eq_self.2 fun x hx => ?_
  have hd : isDirT ps p = false := by rw [isDir_pos hf.srt, ht]; rfl
  obtain ⟨i, hi, rfl⟩ := mem_place nd0 hx
  rw [goes_self hp, decide_eq_false (no_there hf.srt ht i hi), Bool.false_or, Bool.not_eq_true']
  exact Bool.eq_false_iff.2 (no_under hf hp hd _ _ hx (Nat.lt_succ_self _))
/-- One path is made a directory, if it isn't one. -/
def ensStep (ps : List Nd) (q : List UInt8) : List Nd := if isDirT ps q = true then ps else setT ps (dirNd q)
/-- The paths that parts begin with. -/
def begL (L : List (List UInt8)) : List (List UInt8) := (List.range L.length).map fun k => joinF (L.take (k + 1))
def begs (p : List UInt8) : List (List UInt8) := begL (partsF p)
theorem begL_snoc (L : List (List UInt8)) (x : List UInt8) : begL (L ++ [x]) = begL L ++ [joinF (L ++ [x])] := by
  unfold begL
  rw [List.length_append, List.length_singleton, List.range_succ, List.map_append, List.map_singleton, List.take_of_length_le (by simp)]
  congr 1
  refine List.map_congr_left fun k hk => ?_
  rw [List.mem_range] at hk
  rw [List.take_append_of_le_length (by omega)]
theorem begs_par {p : List UInt8} (hp : rightF p = true) (h : (parentF p).2 = true) : begs p = begs (parentF p).1 ++ [p] := by
  obtain ⟨b, hb⟩ := parent_parts p h
  unfold begs
  rw [parts_ne (right_ne hp), parts_ne (parent_ne hp h), hb, begL_snoc, ← hb, join_split]
theorem begs_one {p : List UInt8} (hp : p ≠ []) (h : (parentF p).2 = false) : begs p = [p] := by
  have hs : splitF p = [p] := split_one p fun b hb => by
    have h1 := lst_no47 p p.length (by
      cases hl : lstF p p.length with
      | none => rfl
      | some k => unfold parentF at h; rw [hl] at h; cases h)
    obtain ⟨i, hi, rfl⟩ := mem_place (0 : UInt8) hb
    exact h1 i hi
  unfold begs
  rw [parts_ne hp, hs]
  show [joinF [p]] = [p]
  rfl
theorem ens_fold (N : Nat) : ∀ {p : List UInt8} {ps : List Nd}, p.length < N → Form ps → rightF p = true → ensureT ps p = (begs p).foldl ensStep ps := by
  induction N with
  | zero => intro p ps h; omega
  | succ N ih =>
    intro p ps hN hf hp
    have hne := right_ne hp
    obtain ⟨hh, _⟩ := head_form hp hf
    have e : (begs p).foldl ensStep ps = ensStep (headT ps p) p := by
      unfold headT
      by_cases hq : (parentF p).2 = true
      · have hl := parent_lt p hq
        rw [if_pos hq, begs_par hp hq, List.foldl_append, ih (by omega) hf (right_parent hp hq)]
        rfl
      · rw [if_neg hq, begs_one hne (Bool.eq_false_iff.2 hq)]
        rfl
    rw [e, ensure_step]
    unfold ensStep
    by_cases hd : isDirT (headT ps p) p = true
    · rw [if_pos hd, if_pos hd]
    · rw [if_neg hd, if_neg hd, ← set_drop hh (n := dirNd p) hne (Bool.eq_false_iff.2 hd)]
      rfl
theorem head_fold {p : List UInt8} {ps : List Nd} (hf : Form ps) (hp : rightF p = true) : headT ps p = if (parentF p).2 = true then (begs (parentF p).1).foldl ensStep ps else ps := by
  unfold headT
  by_cases hq : (parentF p).2 = true
  · rw [if_pos hq, if_pos hq, ens_fold _ (Nat.lt_succ_self _) hf (right_parent hp hq)]
  · rw [if_neg hq, if_neg hq]
theorem ens_srt : ∀ (L : List (List UInt8)) {ps : List Nd}, Srt ps → Srt (L.foldl ensStep ps)
  | [], _, h => h
  | q :: L, ps, h => by
    rw [List.foldl_cons]
    refine ens_srt L ?_
    unfold ensStep
    split
    · exact h
    · exact set_srt _ h
theorem ens_len : ∀ (L : List (List UInt8)) (ps : List Nd), (L.foldl ensStep ps).length ≤ ps.length + L.length
  | [], ps => Nat.le_refl _
  | q :: L, ps => by
    rw [List.foldl_cons, List.length_cons]
    have h1 := ens_len L (ensStep ps q)
    have h2 : (ensStep ps q).length ≤ ps.length + 1 := by
      unfold ensStep
      split
      · omega
      · exact set_len ps _
    omega
theorem begs_mem {p q : List UInt8} (h : q ∈ begs p) : q.length ≤ p.length := by
  unfold begs begL at h
  obtain ⟨k, hk, rfl⟩ := List.mem_map.1 h
  have h1 := join_mono (partsF p) (k + 1)
  have h2 : joinF (partsF p) = p := by
    by_cases hp : p = []
    · subst hp; rfl
    · rw [parts_ne hp, join_split]
  rw [h2] at h1
  exact h1
theorem begs_len (p : List UInt8) : (begs p).length ≤ p.length + 1 := by
  unfold begs begL
  rw [List.length_map, List.length_range]
  exact parts_few p
theorem inDir_iff (p : List UInt8) (n : Nd) : inDir p n = decide ((parentF n.path).1 = p) := by
  unfold inDir
  cases h : (parentF n.path).2 with
  | true => simp
  | false =>
    have e : (parentF n.path).1 = [] := by
      unfold parentF at h ⊢
      cases hl : lstF n.path n.path.length with
      | none => rfl
      | some k => rw [hl] at h; cases h
    rw [e]
    by_cases hp : p = []
    · subst hp; rfl
    · simp [hp, Ne.symm hp]
theorem list_piece {ps : List Nd} (hs : Srt ps) (hm : ∀ n ∈ ps, rightF n.path = true) (p : List UInt8) : listT ps p = ((ps.take (hiT ps p)).drop (loT ps p)).filter (inDir p) := by
  refine filter_piece nd0 _ ps (lo_hi ps p) (hi_le ps p) fun i hi h => ?_
  have hr := hm _ (getD_mem nd0 ps i hi)
  rw [← under_range hs p hi]
  by_cases hq : (parentF (ps.getD i nd0).path).2 = true
  · rw [inDir_iff, decide_eq_true_eq] at h
    exact under_parent hr hq (.inl h)
  · unfold inDir at h
    rw [Bool.eq_false_iff.2 hq] at h
    simp at h
    subst h
    exact (under_iff _ _).2 ⟨partsF (ps.getD i nd0).path, by rw [parts_ne (right_ne hr)]; exact split_ne _, rfl⟩
end Go.Proofs.YtaeaomlhbdbbfaaGreatDoor
