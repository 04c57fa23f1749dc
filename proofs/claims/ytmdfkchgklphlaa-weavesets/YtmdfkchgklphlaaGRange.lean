/- A range over a function whose iterator hands over values that lead into memory: what the iterator promises, what the caller owes, and one law that joins them (over any program). -/
import Derived.Test.YtmdfkchgklphlaaGRs
import Derived.RangeFuncCalls
import Derived.RangeFuncSeq
import Derived.RangeFuncLeaves
namespace Go.Proofs.Ytmdfkchgklphlaa
open Go.RowKit

theorem only_put (w : World) (l : Nat) (o : Obj) : Only (fun j => j = l) w (w.putObj l o) := ⟨rfl, rfl, rfl, by simp, fun k _ hk => World.putObj_heap_other hk⟩
/-- Block j is the iterator's own, or made behind b. -/
abbrev Apart (hi top b j : Nat) : Prop := (hi ≤ j ∧ j < top) ∨ b ≤ j
/-- What an iterator promises, made at wv by a caller whose own cells lie from lo to hi: N rounds, the i-th one with what X says; whatever the caller keeps (J) beside the iterator's own blocks. -/
def SeqR (P : Program) (G : World → Prop) (gf : Nat) (lb : Array Value) (N : Nat) (X : Nat → World → Array Value → Prop) (lo hi : Nat) (wv : World) : Prop :=
  ∀ (l m : Nat) (J : Nat → World → Prop) (Jx : World → Prop) (W : World), Below wv.heap.size wv W →
    (∀ i W1 W2, J i W1 → Only (Apart hi wv.heap.size W.heap.size) W1 W2 → J i W2) →
    (∀ W1 W2, Jx W1 → Only (Apart hi wv.heap.size W.heap.size) W1 W2 → Jx W2) →
    (∀ i W1, J i W1 → G W1) →
    (∀ i W1 args k, i < N → J i W1 → X i W1 args → YieldAt Fence.wide k P l args W1 fun e W2 =>
      (e = .returned (.bool true) ∧ J (i + 1) W2 ∧ Only (fun j => (lo ≤ j ∧ j < hi) ∨ (wv.heap.size ≤ j ∧ j < W.heap.size)) W1 W2) ∨ (e = .returned (.bool false) ∧ Jx W2)) →
    J 0 W → CallsIn Fence.wide m P gf (#[.func (.yield l) #[] #[]] ++ lb) W fun e W' => (∃ v, e = .returned v) ∧ (J N W' ∨ Jx W')
/-- How a round may be left: on to the next one, or by a return. -/
def roundEnd (lo hi : Nat) (I Ix : World → Prop) (W : World) : Exit → Act → World → Prop
  | .normal, _, W' => I W' ∧ Only (fun j => lo ≤ j ∧ j < hi) W W'
  | .ret, _, W' => Ix W' ∧ Only (fun j => lo ≤ j ∧ j < hi) W W'
  | _, _, _ => False
/-- Nothing is put off in block D. -/
def Bare (D : Nat) (W : World) : Prop := W.heap[D]? = some (.deferred (some []))
/-- The caller behind a loop whose put-off calls lie in block D. -/
abbrev Marked (a : Act) (D : Nat) : Act := ⟨a.tmps, ⟨.collected D, #[]⟩ :: a.defers⟩
/-- What a caller owes: I k behind k rounds, Ix behind a return; aft: its cells once a round's values are laid. -/
structure Ranger (P : Program) (N : Nat) (X : Nat → World → Array Value → Prop) (lo hi : Nat) (wv : World) (ps : Array Tmp) (assign body : Code) (Q : Exit → Act → World → Prop) (a : Act) (m : Nat) (I : Nat → World → Prop) (Ix : World → Prop) (aft : Array Value → Act) : Prop where
  lays : ∀ l k i W args (K : Act → World → Prop), X i W args → K (aft args) W → assign.wpIn (Fence.wide.inRound l) k P (Exit.then K fun _ _ _ => False) ⟨(ps.zip args).foldl (fun t z => t.setIfInBounds z.1 z.2) a.tmps, []⟩ W
  walks : ∀ l k i W args, i < N → I i W → X i W args → body.wpIn (Fence.wide.inRound l) k P (roundEnd lo hi (I (i + 1)) Ix W) (aft args) W
  ends : ∀ D W, wv.heap.size ≤ D → Bare D W → I N W → Q .normal (Marked a D) W
  leaves : ∀ D W, wv.heap.size ≤ D → Bare D W → Ix W → Code.ret.wpIn Fence.wide m P Q (Marked a D) W

/-- A loop's two blocks: nothing is put off in D; behind it the record. -/
def Stand (r : Loop) (D : Nat) (W : World) : Prop := W.heap[D + 1]? = some (.loop r) ∧ Bare D W
theorem Stand.only {r : Loop} {D : Nat} {W W' : World} {S : Nat → Prop} (h : Stand r D W) (k : Only S W W') (h0 : ¬ S D) (h1 : ¬ S (D + 1)) : Stand r D W' :=
  ⟨(k.block _ (block_lt h.1) h1).trans h.1, (k.block _ (block_lt h.2) h0).trans h.2⟩
/-- The record is turned. -/
theorem Stand.put {r : Loop} {D : Nat} {W : World} (h : Stand r D W) (r' : Loop) : Stand r' D (W.putObj (D + 1) (.loop r')) :=
  ⟨World.putObj_heap_same (block_lt h.1), (World.putObj_heap_other (Nat.ne_of_lt (Nat.lt_succ_self D))).trans h.2⟩
/-- They are laid. -/
theorem stand_new (w : World) (r : Loop) : Stand r w.heap.size ((w.alloc (.deferred (some []))).alloc (.loop r)) ∧ Only (fun _ => False) w ((w.alloc (.deferred (some []))).alloc (.loop r)) ∧ ((w.alloc (.deferred (some []))).alloc (.loop r)).heap.size = w.heap.size + 2 := by
  have hz : (w.alloc (.deferred (some []))).heap.size = w.heap.size + 1 := World.size_alloc w _
  have h := World.alloc_heap_new (w.alloc (.deferred (some []))) (.loop r)
  rw [hz] at h
  refine ⟨⟨h, ?_⟩, ((Only.refl _ w).alloc _).alloc _, by rw [World.size_alloc, hz]⟩
  exact (Below.heap_alloc _ _ _ (by rw [hz]; exact Nat.lt_succ_self _)).trans (World.alloc_heap_new w _)

section
variable {P : Program} {N : Nat} {X : Nat → World → Array Value → Prop} {lo hi : Nat} {wv : World} {ps : Array Tmp} {assign body : Code} {Q : Exit → Act → World → Prop} {a : Act} {m : Nat} {I : Nat → World → Prop} {Ix : World → Prop} {aft : Array Value → Act}
/-- The record of this loop. -/
abbrev recOf (a : Act) (ps : Array Tmp) (assign body : Code) (D fn : Nat) (s : LoopState) (p : Option Code) : Loop := ⟨s, p, fn, a.tmps, ps, assign, body, D⟩
/-- One round: from a record that is ready to one that is ready again, or done. -/
theorem one_yield (h : Ranger P N X lo hi wv ps assign body Q a m I Ix aft) (hhi : hi ≤ wv.heap.size) (hps : ∀ i W args, X i W args → args.size = ps.size) (hX : ∀ i W l r o args, X i W args → W.heap[l]? = some (.loop r) → X i (W.putObj l o) args)
    (hI : ∀ i W1 W2, I i W1 → Only (fun j => hi ≤ j) W1 W2 → I i W2) (hIx : ∀ W1 W2, Ix W1 → Only (fun j => hi ≤ j) W1 W2 → Ix W2) {fn : Nat} (hfn : Fence.wide.fn fn) {i k : Nat} {W : World} {args : Array Value} (hiN : i < N) (h1 : I i W) (h2 : Stand (recOf a ps assign body wv.heap.size fn .ready none) wv.heap.size W) (hx : X i W args) :
    YieldAt Fence.wide k P (wv.heap.size + 1) args W fun e W2 =>
      (e = .returned (.bool true) ∧ (I (i + 1) W2 ∧ Stand (recOf a ps assign body wv.heap.size fn .ready none) wv.heap.size W2) ∧ Only (fun j => (lo ≤ j ∧ j < hi) ∨ (wv.heap.size ≤ j ∧ j < wv.heap.size + 2)) W W2) ∨
      (e = .returned (.bool false) ∧ Ix W2 ∧ Stand (recOf a ps assign body wv.heap.size fn .done (some .ret)) wv.heap.size W2) := by
  have hlast : ∀ j, j = wv.heap.size + 1 → hi ≤ j := fun j e => by omega
  have hb := h2.put (recOf a ps assign body wv.heap.size fn .busy none)
  have ho := only_put W (wv.heap.size + 1) (.loop (recOf a ps assign body wv.heap.size fn .busy none))
  have hxb := hX i W (wv.heap.size + 1) _ (.loop (recOf a ps assign body wv.heap.size fn .busy none)) args hx h2.1
  have hib := hI i W _ h1 (ho.mono hlast)
  refine ⟨fn, _, assign, body, run_yield h2.1 (hps i W args hx), roundIn_of_wpIn hfn (h.lays _ _ i W args _ hx ⟨_, run_beginRound h2.1 rfl, wpIn_mono (h.walks _ k i _ args hiN hib hxb) ?_⟩)⟩
  -- a round is over: the record is turned once more
  have over : ∀ (c : Option Code) (s : LoopState) (W3 : World), (if c.isNone then LoopState.ready else .done) = s → Only (fun j => lo ≤ j ∧ j < hi) (W.putObj (wv.heap.size + 1) (.loop (recOf a ps assign body wv.heap.size fn .busy none))) W3 →
      ∃ W4, (Instr.endRound (wv.heap.size + 1) c).run P W3 = .ok (.bool c.isNone) W4 ∧ Stand (recOf a ps assign body wv.heap.size fn s c) wv.heap.size W4 ∧ Only (fun j => hi ≤ j) W3 W4 ∧ Only (fun j => (lo ≤ j ∧ j < hi) ∨ (wv.heap.size ≤ j ∧ j < wv.heap.size + 2)) W W4 := fun c s W3 hs k3 => by
    subst hs
    have h3 := hb.only k3 (fun q => by omega) (fun q => by omega)
    exact ⟨_, run_endRound c h3.1, h3.put _, (only_put W3 _ _).mono hlast, ((ho.mono fun j e => .inr (by omega)).trans (k3.mono fun j q => .inl q)).trans ((only_put W3 _ _).mono fun j e => .inr (by omega))⟩
  intro e a3 W3 hp
  cases e with
  | normal =>
    obtain ⟨W4, r4, s4, o4, t4⟩ := over none .ready W3 rfl hp.2
    exact ⟨_, W4, r4, .inl ⟨rfl, ⟨hI _ _ _ hp.1 o4, s4⟩, t4⟩⟩
  | ret =>
    obtain ⟨W4, r4, s4, o4, _⟩ := over (some .ret) .done W3 rfl hp.2
    exact ⟨_, W4, r4, .inr ⟨rfl, hIx _ _ hp.1 o4, s4⟩⟩
  | exit => exact hp.elim
  | goto => exact hp.elim
  | panic => exact hp.elim
  | outgrown => exact hp.elim

/-- Both joined. -/
theorem wpIn_range {G : World → Prop} {gf : Nat} {lb : Array Value} {g : Operand} (hseq : SeqR P G gf lb N X lo hi wv) (h : Ranger P N X lo hi wv ps assign body Q a m I Ix aft) (hhi : hi ≤ wv.heap.size) (hg : a.eval g = .func (.func gf) #[] lb) (eg : ∀ args w, (callFunc gf args).run P w = .ok (.enter gf args) w)
    (hps : ∀ i W args, X i W args → args.size = ps.size) (hX : ∀ i W l r o args, X i W args → W.heap[l]? = some (.loop r) → X i (W.putObj l o) args) (hI : ∀ i W1 W2, I i W1 → Only (fun j => hi ≤ j) W1 W2 → I i W2) (hIx : ∀ W1 W2, Ix W1 → Only (fun j => hi ≤ j) W1 W2 → Ix W2) (hG : ∀ i W, I i W → G W) (h0 : I 0 wv) :
    (Code.rangeFunc g ps assign body).wpIn Fence.wide m P Q a wv := wpIn_rangeFunc fun fn hfn => by
  obtain ⟨hs, hn, hz⟩ := stand_new wv (recOf a ps assign body wv.heap.size fn .ready none)
  have hrun : (Instr.enterLoop fn a.tmps ps assign body none).run P wv = .ok (wv.heap.size + 1, [⟨.collected wv.heap.size, #[]⟩]) ((wv.alloc (.deferred (some []))).alloc (.loop (recOf a ps assign body wv.heap.size fn .ready none))) := run_enterLoop_outer ..
  generalize (wv.alloc (.deferred (some []))).alloc (.loop (recOf a ps assign body wv.heap.size fn .ready none)) = w1 at hs hn hz hrun
  have far : ∀ {j}, Apart hi wv.heap.size w1.heap.size j → hi ≤ j ∧ j ≠ wv.heap.size ∧ j ≠ wv.heap.size + 1 := fun q => by
    rw [hz] at q
    omega
  have hend : ∀ j, j = wv.heap.size + 1 → hi ≤ j := fun j e => by omega
  refine ⟨wv.heap.size + 1, [⟨.collected wv.heap.size, #[]⟩], w1, ⟨.fn (.func gf) lb, #[.func (.yield (wv.heap.size + 1)) #[] #[]]⟩, w1, gf, #[.func (.yield (wv.heap.size + 1)) #[] #[]] ++ lb, w1, hrun, ?_, fun _ _ => trivial, ?_, (fun e => by cases e), ?_⟩
  · simp only [resolve, hg]
    simp [go_sem]
  · simp [invoke, go_sem, eg]
  have hall := hseq (wv.heap.size + 1) (m - 1) (fun i W => I i W ∧ Stand (recOf a ps assign body wv.heap.size fn .ready none) wv.heap.size W) (fun W => Ix W ∧ Stand (recOf a ps assign body wv.heap.size fn .done (some .ret)) wv.heap.size W) w1
    (hn.below _ (Nat.le_refl _) fun _ _ f => f)
    (fun i W2 W3 q k => ⟨hI i W2 W3 q.1 (k.mono fun j p => (far p).1), q.2.only k (fun p => (far p).2.1 rfl) (fun p => (far p).2.2 rfl)⟩)
    (fun W2 W3 q k => ⟨hIx W2 W3 q.1 (k.mono fun j p => (far p).1), q.2.only k (fun p => (far p).2.1 rfl) (fun p => (far p).2.2 rfl)⟩)
    (fun i W q => hG i W q.1)
    (fun i W args k hiN q hx => by rw [hz]; exact one_yield h hhi hps hX hI hIx hfn hiN q.1 q.2 hx)
    ⟨hI 0 _ _ h0 (hn.mono fun _ f => f.elim), hs⟩
  refine hall.mono fun e W2 ⟨he, q⟩ => ?_
  obtain ⟨v, rfl⟩ := he
  rcases q with ⟨q1, q2⟩ | ⟨q1, q2⟩
  · exact ⟨none, _, run_endLoop q2.1 (by simp), h.ends _ _ (Nat.le_refl _) (q2.put _).2 (hI _ _ _ q1 ((only_put W2 _ _).mono hend))⟩
  · exact ⟨some .ret, _, run_endLoop q2.1 (by simp), h.leaves _ _ (Nat.le_refl _) (q2.put _).2 (hIx _ _ q1 ((only_put W2 _ _).mono hend))⟩
end
end Go.Proofs.Ytmdfkchgklphlaa
