/- Layer 15 in plain words: nodes that keep the form make a tree, but for collisions; what a deed makes of nodes. -/
import Derived.Test.YtaeaomlhbdbbfaaGreatDoorTnQ
import Derived.Test.YtaeaomlhbdbbfaaGreatDoorTnA
namespace Go.Proofs.YtaeaomlhbdbbfaaGreatDoor
open Go.RowKit

theorem form_checkG {ps : List Nd} (h : Form ps) (hb : bytesT ps ≤ 4194304) : ∀ (r done : List Nd), done ++ r = ps → checkG done r = if (collG done r).isSome = true then 6 else 0
  | [], done, e => by
    rw [List.append_nil] at e
    subst e
    rw [checkG, collG, if_neg (by omega)]
    rfl
  | n :: r, done, e => by
    have hn : n ∈ ps := by rw [← e]; exact List.mem_append_right _ List.mem_cons_self
    have hs : Srt (done ++ n :: r) := by rw [e]; exact h.srt
    obtain ⟨s1, s2, s3⟩ := List.pairwise_append.1 hs
    obtain ⟨m1, m2⟩ := h.may n hn
    have c1 : ¬ mayPath n = false := by rw [m1]; exact Bool.noConfusion
    have c2 : ¬ mayRest n = false := by rw [m2]; exact Bool.noConfusion
    have c3 : ¬ (done ≠ [] ∧ 0 ≤ cmpF (partsF (done.getD (done.length - 1) nd0).path) (partsF n.path)) := fun ⟨g1, g2⟩ => by
      have hl : done.length - 1 < done.length := by
        have := List.length_pos_iff.2 g1
        omega
      have : cmpF (partsF (done.getD (done.length - 1) nd0).path) (partsF n.path) < 0 := s3 _ (getD_mem nd0 done _ hl) n List.mem_cons_self
      omega
    have c4 : ¬ ((parentF n.path).2 = true ∧ isDirT done (parentF n.path).1 = false) := fun ⟨g1, g2⟩ => by
      obtain ⟨d, hd, e1, e2⟩ := h.par n hn g1
      have hl := parent_less m1 g1
      rw [← e1] at hl
      rw [← e] at hd
      have hdd : d ∈ done := by
        rcases List.mem_append.1 hd with g | g
        · exact g
        · rcases List.mem_cons.1 g with g | g
          · rw [g] at hl
            exact (less_irrefl _ hl).elim
          · exact (less_not hl ((List.pairwise_cons.1 s2).1 d g)).elim
      rw [(isDir_iff s1 _).2 ⟨d, hdd, e1, e2⟩] at g2
      cases g2
    rw [checkG, collG, if_neg c1, if_neg c2, if_neg c3, if_neg c4]
    by_cases hc : collT done n.path = true
    · rw [if_pos hc, if_pos hc]
      rfl
    · rw [if_neg hc, if_neg hc]
      exact form_checkG h hb r (done ++ [n]) (by rw [← e, List.append_assoc]; rfl)
theorem form_check {ps : List Nd} (h : Form ps) (hb : bytesT ps ≤ 4194304) (hl : ps.length ≤ 4096) : checkT ps = if (collisionT ps).isSome = true then 6 else 0 := by
  unfold checkT collisionT
  rw [if_neg (by omega)]
  exact form_checkG h hb ps [] rfl

/-- A deed: which, and with what. -/
structure Dd where
  k : Nat
  n : Nd
def kindD (d : Dd) : Nat := d.k % 5
/-- What a deed makes of nodes, and what it answers. -/
def doneT (ps : List Nd) (d : Dd) : List Nd × Int :=
  if kindD d < 3 ∧ mayPath d.n = false then (ps, 5)
  else if kindD d < 2 ∧ mayRest d.n = false then (ps, 1)
  else if kindD d < 2 then (putT ps d.n, 0)
  else if kindD d = 2 then (ensureT ps d.n.path, 0)
  else if mayPath d.n = false ∧ (kindD d = 3 ∨ d.n.path ≠ []) then (ps, 0)
  else (dropT ps d.n.path (decide (kindD d = 3)), (ps.length : Int) - ((dropT ps d.n.path (decide (kindD d = 3))).length : Int))
theorem may_of {b : Bool} {P : Prop} (h : ¬ (P ∧ b = false)) (hp : P) : b = true := by
  cases b with
  | true => rfl
  | false => exact (h ⟨hp, rfl⟩).elim
theorem done_form {ps : List Nd} (h : Form ps) (d : Dd) : Form (doneT ps d).1 := by
  unfold doneT
  by_cases c1 : kindD d < 3 ∧ mayPath d.n = false
  · rw [if_pos c1]
    exact h
  rw [if_neg c1]
  by_cases c2 : kindD d < 2 ∧ mayRest d.n = false
  · rw [if_pos c2]
    exact h
  rw [if_neg c2]
  by_cases c3 : kindD d < 2
  · rw [if_pos c3]
    exact put_form _ ⟨may_of c1 (by omega), may_of c2 c3⟩ h
  rw [if_neg c3]
  by_cases c4 : kindD d = 2
  · rw [if_pos c4]
    exact (ensure_form _ _ ps (Nat.lt_succ_self _) (may_of c1 (by omega)) h).1
  rw [if_neg c4]
  by_cases c5 : mayPath d.n = false ∧ (kindD d = 3 ∨ d.n.path ≠ [])
  · rw [if_pos c5]
    exact h
  rw [if_neg c5]
  refine drop_form h _ ?_
  by_cases c6 : kindD d = 3
  · left
    refine right_ne (?_ : mayPath d.n = true)
    refine may_of (P := kindD d = 3) (fun g => c5 ⟨g.2, .inl g.1⟩) c6
  · right
    exact decide_eq_false c6
theorem ensure_all (Q : Nd → Prop) (L : Nat) (hQ : ∀ q : List UInt8, q.length ≤ L → Q (dirNd q)) : ∀ (p : List UInt8) (ps : List Nd), p.length ≤ L → (∀ n ∈ ps, Q n) → ∀ n ∈ ensureT ps p, Q n := by
  have key : ∀ (M : Nat) (p : List UInt8) (ps : List Nd), p.length ≤ L → p.length < M → (∀ n ∈ ps, Q n) → ∀ n ∈ ensureT ps p, Q n := by
    intro M
    induction M with
    | zero =>
      intro p ps _ h
      omega
    | succ M ih =>
      intro p ps hL hM h
      have hh : ∀ n ∈ headT ps p, Q n := by
        unfold headT
        by_cases hq : (parentF p).2 = true
        · rw [if_pos hq]
          have := parent_lt p hq
          exact ih (parentF p).1 ps (by omega) (by omega) h
        · rw [if_neg hq]
          exact h
      rw [ensure_step]
      by_cases hd : isDirT (headT ps p) p = true
      · rw [if_pos hd]
        exact hh
      · rw [if_neg hd]
        intro n hn
        rcases set_mem hn with rfl | g
        · exact hQ p hL
        · exact hh n (dropT_mem g)
  exact fun p ps hL h => key (p.length + 1) p ps hL (Nat.lt_succ_self _) h
theorem head_all (Q : Nd → Prop) (L : Nat) (hQ : ∀ q : List UInt8, q.length ≤ L → Q (dirNd q)) (p : List UInt8) (ps : List Nd) (hL : p.length ≤ L) (h : ∀ n ∈ ps, Q n) : ∀ n ∈ headT ps p, Q n := by
  unfold headT
  by_cases hq : (parentF p).2 = true
  · rw [if_pos hq]
    have := parent_len p
    exact ensure_all Q L hQ _ ps (by omega) h
  · rw [if_neg hq]
    exact h
theorem put_all (Q : Nd → Prop) (L : Nat) (hQ : ∀ q : List UInt8, q.length ≤ L → Q (dirNd q)) (n : Nd) (ps : List Nd) (hL : n.path.length ≤ L) (hn : Q n) (h : ∀ n ∈ ps, Q n) : ∀ x ∈ putT ps n, Q x := by
  have hh := head_all Q L hQ n.path ps hL h
  unfold putT
  intro x hx
  rcases set_mem hx with g | g
  · rw [g]
    exact hn
  · by_cases hd : n.dir = true
    · rw [if_pos hd] at g
      exact hh x g
    · rw [if_neg hd] at g
      exact hh x (dropT_mem g)
theorem done_all (Q : Nd → Prop) (L : Nat) (hQ : ∀ q : List UInt8, q.length ≤ L → Q (dirNd q)) (d : Dd) (ps : List Nd) (hL : d.n.path.length ≤ L) (hn : Q d.n) (h : ∀ n ∈ ps, Q n) : ∀ x ∈ (doneT ps d).1, Q x := by
  unfold doneT
  by_cases c1 : kindD d < 3 ∧ mayPath d.n = false
  · rw [if_pos c1]
    exact h
  rw [if_neg c1]
  by_cases c2 : kindD d < 2 ∧ mayRest d.n = false
  · rw [if_pos c2]
    exact h
  rw [if_neg c2]
  by_cases c3 : kindD d < 2
  · rw [if_pos c3]
    exact put_all Q L hQ _ ps hL hn h
  rw [if_neg c3]
  by_cases c4 : kindD d = 2
  · rw [if_pos c4]
    exact ensure_all Q L hQ _ ps hL h
  rw [if_neg c4]
  by_cases c5 : mayPath d.n = false ∧ (kindD d = 3 ∨ d.n.path ≠ [])
  · rw [if_pos c5]
    exact h
  rw [if_neg c5]
  exact fun x hx => h x (dropT_mem hx)
theorem put_len (ps : List Nd) (n : Nd) (h2 : n.path.length ≤ 2000) (hin : ∀ n ∈ ps, NdIn n) : (putT ps n).length ≤ ps.length + n.path.length + 2 := by
  have hh := (head_in n.path ps h2 hin).1
  unfold putT
  have hs := set_len (if n.dir = true then headT ps n.path else dropT (headT ps n.path) n.path true) n
  have hx : (if n.dir = true then headT ps n.path else dropT (headT ps n.path) n.path true).length ≤ (headT ps n.path).length := by
    by_cases hd : n.dir = true
    · rw [if_pos hd]
      exact Nat.le_refl _
    · rw [if_neg hd]
      exact dropT_len ..
  omega
theorem done_len (ps : List Nd) (d : Dd) (h2 : d.n.path.length ≤ 60) (hin : ∀ n ∈ ps, NdIn n) : (doneT ps d).1.length ≤ ps.length + 62 := by
  unfold doneT
  by_cases c1 : kindD d < 3 ∧ mayPath d.n = false
  · rw [if_pos c1]
    exact Nat.le_add_right ..
  rw [if_neg c1]
  by_cases c2 : kindD d < 2 ∧ mayRest d.n = false
  · rw [if_pos c2]
    exact Nat.le_add_right ..
  rw [if_neg c2]
  by_cases c3 : kindD d < 2
  · rw [if_pos c3]
    have := put_len ps d.n (by omega) hin
    show (putT ps d.n).length ≤ _
    omega
  rw [if_neg c3]
  by_cases c4 : kindD d = 2
  · rw [if_pos c4]
    have := (ensure_in _ d.n.path ps (Nat.le_refl _) (by omega) hin).1
    show (ensureT ps d.n.path).length ≤ _
    omega
  rw [if_neg c4]
  by_cases c5 : mayPath d.n = false ∧ (kindD d = 3 ∨ d.n.path ≠ [])
  · rw [if_pos c5]
    exact Nat.le_add_right ..
  rw [if_neg c5]
  have := dropT_len ps d.n.path (decide (kindD d = 3))
  show (dropT ps d.n.path (decide (kindD d = 3))).length ≤ _
  omega
/-- The nodes behind deeds. -/
def runT (ps : List Nd) (ds : List Dd) : List Nd := ds.foldl (fun ps d => (doneT ps d).1) ps
/-- A node of short path and content. -/
def NdSm (n : Nd) : Prop := NdIn n ∧ n.path.length ≤ 60 ∧ n.data.length ≤ 60
theorem dirNd_sm (q : List UInt8) (h : q.length ≤ 60) : NdSm (dirNd q) := ⟨dirNd_in (by omega), h, Nat.zero_le _⟩
theorem done_sm {ps : List Nd} (h : ∀ n ∈ ps, NdSm n) (d : Dd) (hd : NdSm d.n) : ∀ n ∈ (doneT ps d).1, NdSm n := done_all NdSm 60 dirNd_sm d ps hd.2.1 hd h
/-- What stands behind some deeds: the form, short nodes, few. -/
theorem run_ok : ∀ (ds : List Dd) (ps : List Nd), (∀ d ∈ ds, NdSm d.n) → Form ps → (∀ n ∈ ps, NdSm n) → Form (runT ps ds) ∧ (∀ n ∈ runT ps ds, NdSm n) ∧ (runT ps ds).length ≤ ps.length + 62 * ds.length
  | [], ps, _, h1, h2 => ⟨h1, h2, Nat.le_add_right ..⟩
  | d :: r, ps, hd, h1, h2 => by
    have hdd := hd d List.mem_cons_self
    obtain ⟨g1, g2, g3⟩ := run_ok r (doneT ps d).1 (fun x hx => hd x (List.mem_cons_of_mem _ hx)) (done_form h1 d) (done_sm h2 d hdd)
    refine ⟨g1, g2, Nat.le_trans g3 ?_⟩
    have := done_len ps d hdd.2.1 fun n hn => (h2 n hn).1
    rw [List.length_cons]
    omega
theorem run_check {ps : List Nd} (h1 : Form ps) (h2 : ∀ n ∈ ps, NdSm n) (h3 : ps.length ≤ 2000) : checkT ps = if (collisionT ps).isSome = true then 6 else 0 := by
  have hb := bytes_le 60 ps fun n hn => (h2 n hn).2.2
  exact form_check h1 (by omega) (by omega)
end Go.Proofs.YtaeaomlhbdbbfaaGreatDoor
