/- A range over a function whose body lays rows of its own in its rounds: what an iterator that turns nothing promises, what the caller owes, and one law that joins them (over any program). -/
import Derived.Test.YtmdfkchgklphlaaGRange
namespace Go.Proofs.Ytmdfkchgklphlaa
open Go.RowKit

/-- What an iterator promises that turns nothing: it lays blocks, no more; its own blocks lie from hi to where it was made. -/
def SeqA (P : Program) (gf : Nat) (lb : Array Value) (N : Nat) (X : Nat → World → Array Value → Prop) (hi : Nat) (wv : World) : Prop :=
  ∀ (l m : Nat) (J : Nat → World → Prop) (Jx : World → Prop) (W : World), Below wv.heap.size wv W →
    (∀ i W1 W2, J i W1 → Only (fun _ => False) W1 W2 → J i W2) →
    (∀ W1 W2, Jx W1 → Only (fun _ => False) W1 W2 → Jx W2) →
    (∀ i W1 args k, i < N → J i W1 → X i W1 args → YieldAt Fence.wide k P l args W1 fun e W2 =>
      (e = .returned (.bool true) ∧ J (i + 1) W2 ∧ Only (fun j => j < hi ∨ wv.heap.size ≤ j) W1 W2) ∨ (e = .returned (.bool false) ∧ Jx W2)) →
    J 0 W → CallsIn Fence.wide m P gf (#[.func (.yield l) #[] #[]] ++ lb) W fun e W' => (∃ v, e = .returned v) ∧ (J N W' ∨ Jx W')
theorem seqR_of_A {P : Program} {G : World → Prop} {gf : Nat} {lb : Array Value} {N : Nat} {X : Nat → World → Array Value → Prop} {lo hi : Nat} {wv : World} (h : SeqA P gf lb N X hi wv) : SeqR P G gf lb N X lo hi wv :=
  fun l m J Jx W hb hJ hJx _ hY h0 => h l m J Jx W hb (fun i W1 W2 q k => hJ i W1 W2 q (k.mono fun _ f => f.elim)) (fun W1 W2 q k => hJx W1 W2 q (k.mono fun _ f => f.elim))
    (fun i W1 args k hi q hx => by
      obtain ⟨fn, tmps, assign, body, hy, hR⟩ := hY i W1 args k hi q hx
      refine ⟨fn, tmps, assign, body, hy, hR.mono fun e W2 g => ?_⟩
      rcases g with ⟨g1, g2, g3⟩ | g
      · exact .inl ⟨g1, g2, g3.mono fun j q => q.elim (fun q => .inl q.2) fun q => .inr q.1⟩
      · exact .inr g) h0
/-- How a round may be left. -/
def roundEndA (hi top : Nat) (I Ix : World → Prop) (W : World) : Exit → Act → World → Prop
  | .normal, _, W' => I W' ∧ Only (fun j => j < hi ∨ top + 2 ≤ j) W W'
  | .ret, _, W' => Ix W' ∧ Only (fun j => j < hi ∨ top + 2 ≤ j) W W'
  | _, _, _ => False
/-- What a caller owes. -/
structure RangerA (P : Program) (N : Nat) (X : Nat → World → Array Value → Prop) (hi top : Nat) (ps : Array Tmp) (assign body : Code) (Q : Exit → Act → World → Prop) (a : Act) (m : Nat) (I : Nat → World → Prop) (Ix : World → Prop) (aft : Array Value → Act) : Prop where
  lays : ∀ l k i W args (K : Act → World → Prop), X i W args → K (aft args) W → assign.wpIn (Fence.wide.inRound l) k P (Exit.then K fun _ _ _ => False) ⟨(ps.zip args).foldl (fun t z => t.setIfInBounds z.1 z.2) a.tmps, []⟩ W
  walks : ∀ l k i W args, i < N → I i W → X i W args → body.wpIn (Fence.wide.inRound l) k P (roundEndA hi top (I (i + 1)) Ix W) (aft args) W
  ends : ∀ W, Bare top W → I N W → Q .normal (Marked a top) W
  leaves : ∀ W, Bare top W → Ix W → Code.ret.wpIn Fence.wide m P Q (Marked a top) W

section
variable {P : Program} {N : Nat} {X : Nat → World → Array Value → Prop} {hi : Nat} {wv : World} {ps : Array Tmp} {assign body : Code} {Q : Exit → Act → World → Prop} {a : Act} {m : Nat} {I : Nat → World → Prop} {Ix : World → Prop} {aft : Array Value → Act}
theorem one_yieldA (h : RangerA P N X hi wv.heap.size ps assign body Q a m I Ix aft) (hhi : hi ≤ wv.heap.size) (hps : ∀ i W args, X i W args → args.size = ps.size) (hX : ∀ i W l r o args, X i W args → W.heap[l]? = some (.loop r) → X i (W.putObj l o) args)
    (hI : ∀ i W1 W2, I i W1 → Only (fun j => j = wv.heap.size + 1) W1 W2 → I i W2) (hIx : ∀ W1 W2, Ix W1 → Only (fun j => j = wv.heap.size + 1) W1 W2 → Ix W2) {fn : Nat} (hfn : Fence.wide.fn fn) {i k : Nat} {W : World} {args : Array Value} (hiN : i < N) (h1 : I i W) (h2 : Stand (recOf a ps assign body wv.heap.size fn .ready none) wv.heap.size W) (hx : X i W args) :
    YieldAt Fence.wide k P (wv.heap.size + 1) args W fun e W2 =>
      (e = .returned (.bool true) ∧ (I (i + 1) W2 ∧ Stand (recOf a ps assign body wv.heap.size fn .ready none) wv.heap.size W2) ∧ Only (fun j => j < hi ∨ wv.heap.size ≤ j) W W2) ∨
      (e = .returned (.bool false) ∧ Ix W2 ∧ Stand (recOf a ps assign body wv.heap.size fn .done (some .ret)) wv.heap.size W2) := by
  have hb := h2.put (recOf a ps assign body wv.heap.size fn .busy none)
  have ho := only_put W (wv.heap.size + 1) (.loop (recOf a ps assign body wv.heap.size fn .busy none))
  have hxb := hX i W (wv.heap.size + 1) _ (.loop (recOf a ps assign body wv.heap.size fn .busy none)) args hx h2.1
  have hib := hI i W _ h1 ho
  refine ⟨fn, _, assign, body, run_yield h2.1 (hps i W args hx), roundIn_of_wpIn hfn (h.lays _ _ i W args _ hx ⟨_, run_beginRound h2.1 rfl, wpIn_mono (h.walks _ k i _ args hiN hib hxb) ?_⟩)⟩
  have over : ∀ (c : Option Code) (s : LoopState) (W3 : World), (if c.isNone then LoopState.ready else .done) = s → Only (fun j => j < hi ∨ wv.heap.size + 2 ≤ j) (W.putObj (wv.heap.size + 1) (.loop (recOf a ps assign body wv.heap.size fn .busy none))) W3 →
      ∃ W4, (Instr.endRound (wv.heap.size + 1) c).run P W3 = .ok (.bool c.isNone) W4 ∧ Stand (recOf a ps assign body wv.heap.size fn s c) wv.heap.size W4 ∧ Only (fun j => j = wv.heap.size + 1) W3 W4 ∧ Only (fun j => j < hi ∨ wv.heap.size ≤ j) W W4 := fun c s W3 hs k3 => by
    subst hs
    have h3 := hb.only k3 (fun q => by omega) (fun q => by omega)
    exact ⟨_, run_endRound c h3.1, h3.put _, only_put W3 _ _, ((ho.mono fun j e => .inr (by omega)).trans (k3.mono fun j q => q.elim .inl fun q => .inr (by omega))).trans ((only_put W3 _ _).mono fun j e => .inr (by omega))⟩
  intro e a3 W3 hp
  cases e with
  | normal =>
    obtain ⟨W4, r4, s4, o4, t4⟩ := over none .ready W3 rfl hp.2
    exact ⟨_, W4, r4, .inl ⟨rfl, ⟨hI _ _ _ hp.1 o4, s4⟩, t4⟩⟩
  | ret =>
    obtain ⟨W4, r4, s4, o4, _⟩ := over (some .ret) .done W3 rfl hp.2
    exact ⟨_, W4, r4, .inr ⟨rfl, hIx _ _ hp.1 o4, s4⟩⟩
  | exit => exact hp.elim
  | goto => exact hp.elim
  | panic => exact hp.elim
  | outgrown => exact hp.elim

/-- Both joined. -/
theorem wpIn_rangeA {gf : Nat} {lb : Array Value} {g : Operand} (hseq : SeqA P gf lb N X hi wv) (h : RangerA P N X hi wv.heap.size ps assign body Q a m I Ix aft) (hhi : hi ≤ wv.heap.size) (hg : a.eval g = .func (.func gf) #[] lb) (eg : ∀ args w, (callFunc gf args).run P w = .ok (.enter gf args) w)
    (hps : ∀ i W args, X i W args → args.size = ps.size) (hX : ∀ i W l r o args, X i W args → W.heap[l]? = some (.loop r) → X i (W.putObj l o) args) (hI : ∀ i W1 W2, I i W1 → Only (fun j => j = wv.heap.size + 1) W1 W2 → I i W2) (hIx : ∀ W1 W2, Ix W1 → Only (fun j => j = wv.heap.size + 1) W1 W2 → Ix W2)
    (h0 : ∀ W, Only (fun _ => False) wv W → wv.heap.size + 2 ≤ W.heap.size → I 0 W) :
    (Code.rangeFunc g ps assign body).wpIn Fence.wide m P Q a wv := wpIn_rangeFunc fun fn hfn => by
  obtain ⟨hs, hn, hz⟩ := stand_new wv (recOf a ps assign body wv.heap.size fn .ready none)
  have hrun : (Instr.enterLoop fn a.tmps ps assign body none).run P wv = .ok (wv.heap.size + 1, [⟨.collected wv.heap.size, #[]⟩]) ((wv.alloc (.deferred (some []))).alloc (.loop (recOf a ps assign body wv.heap.size fn .ready none))) := run_enterLoop_outer ..
  generalize (wv.alloc (.deferred (some []))).alloc (.loop (recOf a ps assign body wv.heap.size fn .ready none)) = w1 at hs hn hz hrun
  refine ⟨wv.heap.size + 1, [⟨.collected wv.heap.size, #[]⟩], w1, ⟨.fn (.func gf) lb, #[.func (.yield (wv.heap.size + 1)) #[] #[]]⟩, w1, gf, #[.func (.yield (wv.heap.size + 1)) #[] #[]] ++ lb, w1, hrun, ?_, fun _ _ => trivial, ?_, (fun e => by cases e), ?_⟩
  · simp only [resolve, hg]
    simp [go_sem]
  · simp [invoke, go_sem, eg]
  have hall := hseq (wv.heap.size + 1) (m - 1) (fun i W => I i W ∧ Stand (recOf a ps assign body wv.heap.size fn .ready none) wv.heap.size W) (fun W => Ix W ∧ Stand (recOf a ps assign body wv.heap.size fn .done (some .ret)) wv.heap.size W) w1
    (hn.below _ (Nat.le_refl _) fun _ _ f => f)
    (fun i W2 W3 q k => ⟨hI i W2 W3 q.1 (k.mono fun _ f => f.elim), q.2.only k (fun f => f) (fun f => f)⟩)
    (fun W2 W3 q k => ⟨hIx W2 W3 q.1 (k.mono fun _ f => f.elim), q.2.only k (fun f => f) (fun f => f)⟩)
    (fun i W args k hiN q hx => one_yieldA h hhi hps hX hI hIx hfn hiN q.1 q.2 hx)
    ⟨h0 w1 hn (by omega), hs⟩
  refine hall.mono fun e W2 ⟨he, q⟩ => ?_
  obtain ⟨v, rfl⟩ := he
  rcases q with ⟨q1, q2⟩ | ⟨q1, q2⟩
  · exact ⟨none, _, run_endLoop q2.1 (by simp), h.ends _ (q2.put _).2 (hI _ _ _ q1 (only_put W2 _ _))⟩
  · exact ⟨some .ret, _, run_endLoop q2.1 (by simp), h.leaves _ (q2.put _).2 (hIx _ _ q1 (only_put W2 _ _))⟩
end
end Go.Proofs.Ytmdfkchgklphlaa
