/- Layer 15 in plain words: nodes that make a tree, but for collisions; what is put, ensured, removed keeps the form. -/
import Derived.Test.YtaeaomlhbdbbfaaGreatDoorTnO
namespace Go.Proofs.YtaeaomlhbdbbfaaGreatDoor
open Go.RowKit

/-- Nodes in order. -/
def Srt (ps : List Nd) : Prop := ps.Pairwise fun a b => lessP a.path b.path
/-- Nodes that make a tree, but for collisions and how much there is. -/
structure Form (ps : List Nd) : Prop where
  may : ∀ n ∈ ps, mayPath n = true ∧ mayRest n = true
  srt : Srt ps
  par : ∀ n ∈ ps, (parentF n.path).2 = true → ∃ d ∈ ps, d.path = (parentF n.path).1 ∧ d.dir = true
theorem Form.nil : Form [] := ⟨fun n h => (by cases h), List.Pairwise.nil, fun n h => (by cases h)⟩
theorem srt_inj : ∀ {ps : List Nd}, Srt ps → ∀ {a b : Nd}, a ∈ ps → b ∈ ps → a.path = b.path → a = b
  | [], _, a, _, h, _, _ => by cases h
  | n :: r, hs, a, b, ha, hb, e => by
    have h1 := List.pairwise_cons.1 hs
    rcases List.mem_cons.1 ha with ea | ha
    · rcases List.mem_cons.1 hb with eb | hb
      · rw [ea, eb]
      · have := h1.1 b hb
        rw [← ea, e] at this
        exact (less_irrefl _ this).elim
    · rcases List.mem_cons.1 hb with eb | hb
      · have := h1.1 a ha
        rw [← eb, e] at this
        exact (less_irrefl _ this).elim
      · exact srt_inj h1.2 ha hb e
/-- What is there is found. -/
theorem at_mem (p : List UInt8) : ∀ (ps : List Nd), (∃ n ∈ ps, n.path = p) → ∃ k, atG p ps = some k
  | [], h => by
    obtain ⟨_, h, _⟩ := h
    cases h
  | n :: r, h => by
    unfold atG
    by_cases e : n.path = p
    · exact ⟨0, by rw [if_pos e]⟩
    · obtain ⟨m, hm, hp⟩ := h
      rcases List.mem_cons.1 hm with rfl | hm
      · exact (e hp).elim
      · obtain ⟨k, hk⟩ := at_mem p r ⟨m, hm, hp⟩
        exact ⟨k + 1, by rw [if_neg e, hk]; rfl⟩
theorem isDir_iff {ps : List Nd} (hs : Srt ps) (p : List UInt8) : isDirT ps p = true ↔ ∃ d ∈ ps, d.path = p ∧ d.dir = true := by
  unfold isDirT
  constructor
  · intro h
    cases hk : atG p ps with
    | none =>
      rw [hk] at h
      cases h
    | some k =>
      rw [hk] at h
      obtain ⟨h1, h2⟩ := at_lt p ps k hk
      exact ⟨_, getD_mem nd0 ps k h1, h2, h⟩
  · rintro ⟨d, hd, rfl, hdd⟩
    obtain ⟨k, hk⟩ := at_mem d.path ps ⟨d, hd, rfl⟩
    obtain ⟨h1, h2⟩ := at_lt d.path ps k hk
    rw [hk]
    show (ps.getD k nd0).dir = true
    rw [srt_inj hs (getD_mem nd0 ps k h1) hd h2]
    exact hdd
/-- A node put among those in order: those ahead, itself, those behind. -/
theorem setG_done (n : Nd) : ∀ ps : List Nd, (∀ m ∈ ps, lessP n.path m.path) → setG n ps true = ps
  | [], _ => rfl
  | m :: r, h => by
    have h1 : lessP n.path m.path := h m List.mem_cons_self
    have h2 : ¬ cmpF (partsF m.path) (partsF n.path) = 0 := fun e => by
      rw [cmp_path] at e
      rw [e] at h1
      exact less_irrefl _ h1
    rw [setG, if_neg (fun h => by cases h.2), if_neg h2, Bool.true_or, setG_done n r fun m hm => h m (List.mem_cons_of_mem _ hm)]
    rfl
theorem set_mem_iff (n : Nd) : ∀ ps : List Nd, Srt ps → Srt (setG n ps false) ∧ ∀ x, x ∈ setG n ps false ↔ x = n ∨ (x ∈ ps ∧ x.path ≠ n.path)
  | [], _ => ⟨List.pairwise_singleton _ _, fun x => by simp [setG]⟩
  | m :: r, hs => by
    obtain ⟨h1, h2⟩ := List.pairwise_cons.1 hs
    obtain ⟨ih1, ih2⟩ := set_mem_iff n r h2
    rcases less_cases m.path n.path with hl | he | hg
    · have c1 : ¬ decide (0 ≤ cmpF (partsF m.path) (partsF n.path)) = true := fun h => by
        have h3 : cmpF (partsF m.path) (partsF n.path) < 0 := hl
        rw [decide_eq_true_eq] at h
        omega
      have c2 : ¬ cmpF (partsF m.path) (partsF n.path) = 0 := fun e => by
        have h3 : cmpF (partsF m.path) (partsF n.path) < 0 := hl
        omega
      have e : setG n (m :: r) false = m :: setG n r false := by
        rw [setG, if_neg (fun h => c1 h.1), if_neg c2, Bool.false_or, show decide (0 ≤ cmpF (partsF m.path) (partsF n.path)) = false from Bool.eq_false_iff.2 c1]
        rfl
      rw [e]
      refine ⟨List.pairwise_cons.2 ⟨fun x hx => ?_, ih1⟩, fun x => ?_⟩
      · rcases (ih2 x).1 hx with rfl | ⟨h, _⟩
        · exact hl
        · exact h1 x h
      · rw [List.mem_cons, ih2 x, List.mem_cons]
        constructor
        · rintro (rfl | rfl | ⟨g1, g2⟩)
          · exact .inr ⟨.inl rfl, fun e => by rw [e] at hl; exact less_irrefl _ hl⟩
          · exact .inl rfl
          · exact .inr ⟨.inr g1, g2⟩
        · rintro (rfl | ⟨rfl | g1, g2⟩)
          · exact .inr (.inl rfl)
          · exact .inl rfl
          · exact .inr (.inr ⟨g1, g2⟩)
    · have c0 : cmpF (partsF m.path) (partsF n.path) = 0 := cmp_path.2 he
      have hr : ∀ x ∈ r, lessP n.path x.path := fun x hx => by rw [← he]; exact h1 x hx
      have e : setG n (m :: r) false = n :: r := by
        rw [setG, c0, if_pos ⟨by decide, rfl⟩, if_pos rfl]
        show [n] ++ ([] ++ setG n r true) = _
        rw [setG_done n r hr]
        rfl
      rw [e]
      refine ⟨List.pairwise_cons.2 ⟨hr, h2⟩, fun x => ?_⟩
      rw [List.mem_cons, List.mem_cons]
      constructor
      · rintro (rfl | g)
        · exact .inl rfl
        · exact .inr ⟨.inr g, fun e => by have := hr x g; rw [e] at this; exact less_irrefl _ this⟩
      · rintro (rfl | ⟨rfl | g, g2⟩)
        · exact .inl rfl
        · exact (g2 he).elim
        · exact .inr g
    · have hpos : 0 < cmpF (partsF m.path) (partsF n.path) := by
        have h3 : cmpF (partsF n.path) (partsF m.path) < 0 := hg
        rw [cmp_anti] at h3
        omega
      have hr : ∀ x ∈ r, lessP n.path x.path := fun x hx => less_trans hg (h1 x hx)
      have e : setG n (m :: r) false = n :: m :: r := by
        rw [setG, if_pos ⟨decide_eq_true (Int.le_of_lt hpos), rfl⟩, if_neg (by omega), decide_eq_true (Int.le_of_lt hpos)]
        show [n] ++ ([m] ++ setG n r true) = _
        rw [setG_done n r hr]
        rfl
      rw [e]
      refine ⟨List.pairwise_cons.2 ⟨fun x hx => ?_, hs⟩, fun x => ?_⟩
      · rcases List.mem_cons.1 hx with rfl | g
        · exact hg
        · exact hr x g
      · rw [List.mem_cons]
        constructor
        · rintro (rfl | g)
          · exact .inl rfl
          · refine .inr ⟨g, fun ex => ?_⟩
            rcases List.mem_cons.1 g with em | g
            · rw [← em, ex] at hg
              exact less_irrefl _ hg
            · have := hr x g
              rw [ex] at this
              exact less_irrefl _ this
        · rintro (rfl | ⟨g, _⟩)
          · exact .inl rfl
          · exact .inr g
theorem set_srt {ps : List Nd} (n : Nd) (h : Srt ps) : Srt (setT ps n) := (set_mem_iff n ps h).1
theorem set_iff {ps : List Nd} (n : Nd) (h : Srt ps) (x : Nd) : x ∈ setT ps n ↔ x = n ∨ (x ∈ ps ∧ x.path ≠ n.path) := (set_mem_iff n ps h).2 x
theorem drop_srt {ps : List Nd} (p : List UInt8) (self : Bool) (h : Srt ps) : Srt (dropT ps p self) := List.Pairwise.filter _ h
theorem drop_iff (ps : List Nd) (p : List UInt8) (self : Bool) (x : Nd) : x ∈ dropT ps p self ↔ x ∈ ps ∧ goes p self x = false := by
  unfold dropT
  rw [List.mem_filter, Bool.not_eq_true']
/-- What goes with a path that isn't none. -/
theorem goes_iff {p : List UInt8} (hp : p ≠ []) (self : Bool) (x : Nd) : goes p self x = true ↔ (x.path = p ∧ self = true) ∨ underF (partsF x.path) (partsF p) = true := by
  unfold goes
  rw [decide_eq_false hp]
  simp
theorem drop_form {ps : List Nd} (h : Form ps) {p : List UInt8} (self : Bool) (hself : p ≠ [] ∨ self = false) : Form (dropT ps p self) := by
  refine ⟨fun n hn => h.may n (dropT_mem hn), drop_srt p self h.srt, fun n hn hp => ?_⟩
  obtain ⟨h1, h2⟩ := (drop_iff ps p self n).1 hn
  obtain ⟨d, hd, hdp, hdd⟩ := h.par n h1 hp
  refine ⟨d, (drop_iff ps p self d).2 ⟨hd, ?_⟩, hdp, hdd⟩
  cases hg : goes p self d with
  | false => rfl
  | true =>
    by_cases hp0 : p = []
    · subst hp0
      rcases hself with g | g
      · exact (g rfl).elim
      · subst g
        have : goes [] false n = true := by
          unfold goes
          simp
        rw [this] at h2
        cases h2
    · have : goes p self n = true := by
        rw [goes_iff hp0]
        right
        refine under_parent (h.may n h1).1 hp ?_
        rw [goes_iff hp0] at hg
        rcases hg with ⟨g, _⟩ | g
        · exact .inl (by rw [← hdp, g])
        · exact .inr (by rw [← hdp]; exact g)
      rw [this] at h2
      cases h2
/-- A node is put where its directory is: a directory in any place, a file where nothing is under it. -/
theorem set_form {ps : List Nd} (h : Form ps) (n : Nd) (hm : mayPath n = true ∧ mayRest n = true) (hpar : (parentF n.path).2 = true → isDirT ps (parentF n.path).1 = true)
    (hfile : n.dir = true ∨ ∀ x ∈ ps, (parentF x.path).2 = true → (parentF x.path).1 ≠ n.path) : Form (setT ps n) := by
  refine ⟨fun x hx => ?_, set_srt n h.srt, fun x hx hp => ?_⟩
  · rcases (set_iff n h.srt x).1 hx with rfl | ⟨g, _⟩
    · exact hm
    · exact h.may x g
  · have key : ∀ d ∈ ps, d.path = (parentF x.path).1 → d.dir = true → (x = n ∨ x ∈ ps) → ∃ d ∈ setT ps n, d.path = (parentF x.path).1 ∧ d.dir = true := fun d hd e hdd hxx => by
      by_cases en : d.path = n.path
      · rcases hxx with rfl | hxx
        · have := parent_less hm.1 hp
          rw [← e, en] at this
          exact (less_irrefl _ this).elim
        · rcases hfile with g | g
          · exact ⟨n, (set_iff n h.srt n).2 (.inl rfl), by rw [← en, e], g⟩
          · exact (g x hxx hp (by rw [← e, en])).elim
      · exact ⟨d, (set_iff n h.srt d).2 (.inr ⟨hd, en⟩), e, hdd⟩
    rcases (set_iff n h.srt x).1 hx with rfl | ⟨g, _⟩
    · obtain ⟨d, hd, e, hdd⟩ := (isDir_iff h.srt _).1 (hpar hp)
      exact key d hd e hdd (.inl rfl)
    · obtain ⟨d, hd, e, hdd⟩ := h.par x g hp
      exact key d hd e hdd (.inr g)
theorem dirNd_may {p : List UInt8} (h : rightF p = true) : mayPath (dirNd p) = true ∧ mayRest (dirNd p) = true := ⟨h, rfl⟩
theorem isDir_drop {ps : List Nd} (h : Srt ps) {p q : List UInt8} (hp : p ≠ []) (hq : isDirT ps q = true) (hn : q ≠ p) (hu : ¬ underF (partsF q) (partsF p) = true) : isDirT (dropT ps p true) q = true := by
  rw [isDir_iff (drop_srt p true h)]
  obtain ⟨d, hd, e, hdd⟩ := (isDir_iff h q).1 hq
  refine ⟨d, (drop_iff ps p true d).2 ⟨hd, ?_⟩, e, hdd⟩
  cases hg : goes p true d with
  | false => rfl
  | true =>
    rw [goes_iff hp, e] at hg
    rcases hg with ⟨g, _⟩ | g
    · exact (hn g).elim
    · exact (hu g).elim
theorem parent_far {p : List UInt8} (hp : rightF p = true) (h : (parentF p).2 = true) : (parentF p).1 ≠ p ∧ ¬ underF (partsF (parentF p).1) (partsF p) = true := by
  have hl := parent_less hp h
  exact ⟨fun e => by rw [e] at hl; exact less_irrefl _ hl, fun hu => less_not hl (under_less hu)⟩
theorem ensure_form (L : Nat) : ∀ (p : List UInt8) (ps : List Nd), p.length < L → rightF p = true → Form ps → Form (ensureT ps p) ∧ isDirT (ensureT ps p) p = true := by
  induction L with
  | zero =>
    intro p ps h
    omega
  | succ L ih =>
    intro p ps h hp hf
    have hh : Form (headT ps p) ∧ ((parentF p).2 = true → isDirT (headT ps p) (parentF p).1 = true) := by
      unfold headT
      by_cases hq : (parentF p).2 = true
      · rw [if_pos hq]
        have := parent_lt p hq
        obtain ⟨g1, g2⟩ := ih (parentF p).1 ps (by omega) (right_parent hp hq) hf
        exact ⟨g1, fun _ => g2⟩
      · rw [if_neg hq]
        exact ⟨hf, fun g => (hq g).elim⟩
    rw [ensure_step]
    by_cases hd : isDirT (headT ps p) p = true
    · rw [if_pos hd]
      exact ⟨hh.1, hd⟩
    · rw [if_neg hd]
      have hne := right_ne hp
      have hdf : Form (dropT (headT ps p) p true) := drop_form hh.1 true (.inl hne)
      have hsf : Form (setT (dropT (headT ps p) p true) (dirNd p)) := by
        refine set_form hdf _ (dirNd_may hp) (fun hq => ?_) (.inl rfl)
        exact isDir_drop hh.1.srt hne (hh.2 hq) (parent_far hp hq).1 (parent_far hp hq).2
      refine ⟨hsf, (isDir_iff hsf.srt p).2 ⟨dirNd p, (set_iff _ hdf.srt _).2 (.inl rfl), rfl, rfl⟩⟩
theorem head_form {p : List UInt8} {ps : List Nd} (hp : rightF p = true) (hf : Form ps) : Form (headT ps p) ∧ ((parentF p).2 = true → isDirT (headT ps p) (parentF p).1 = true) := by
  unfold headT
  by_cases hq : (parentF p).2 = true
  · rw [if_pos hq]
    obtain ⟨g1, g2⟩ := ensure_form _ (parentF p).1 ps (Nat.lt_succ_self _) (right_parent hp hq) hf
    exact ⟨g1, fun _ => g2⟩
  · rw [if_neg hq]
    exact ⟨hf, fun g => (hq g).elim⟩
theorem put_form {ps : List Nd} (n : Nd) (hm : mayPath n = true ∧ mayRest n = true) (hf : Form ps) : Form (putT ps n) := by
  obtain ⟨h1, h2⟩ := head_form hm.1 hf
  unfold putT
  by_cases hd : n.dir = true
  · rw [if_pos hd]
    exact set_form h1 n hm h2 (.inl hd)
  · rw [if_neg hd]
    have hne := right_ne hm.1
    have hdf : Form (dropT (headT ps n.path) n.path true) := drop_form h1 true (.inl hne)
    refine set_form hdf n hm (fun hq => isDir_drop h1.srt hne (h2 hq) (parent_far hm.1 hq).1 (parent_far hm.1 hq).2) (.inr fun x hx hq e => ?_)
    obtain ⟨g1, g2⟩ := (drop_iff _ _ _ x).1 hx
    have : goes n.path true x = true := by
      rw [goes_iff hne]
      exact .inr (under_parent (h1.may x g1).1 hq (.inl e))
    rw [this] at g2
    cases g2
end Go.Proofs.YtaeaomlhbdbbfaaGreatDoor
