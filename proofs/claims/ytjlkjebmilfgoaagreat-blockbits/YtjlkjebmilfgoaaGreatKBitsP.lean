/-
  BlockBits of layer 11 is true for every input: whatever piece is handed in, the last one or not, behind up to seven bits.
  Conditions: none beside those that every row has (what is handed in can be read as data).
-/
import Derived.Test.YtjlkjebmilfgoaaGreatKBits
import Derived.Test.YtjlkjebmilfgoaaGreatTToks
import Derived.Test.YtjlkjebmilfgoaaGreatRows
import Derived.ProofKit
import Derived.OpenShut
import Derived.ChangeOld
import Derived.Below
namespace Go.Proofs.YtjlkjebmilfgoaaGreat.blockBits
open Go.ChangeShapes Go.WideShapes Go.ChangeAt Go.RowKit
set_option linter.unusedVariables false

theorem own : ownKnob Tryz.prog.godebug = none := by kernel_rfl
theorem laidOut : laidOutB Tryz.prog = true := by kernel_rfl
theorem cellsP : Tryz.prog.cellsOf 24 = 3 := by kernel_rfl
theorem cells9 : Tryz.prog.cellsOf 9 = 1 := by kernel_rfl
theorem cellsT : Tryz.prog.cellsOf 22 = 1 := by kernel_rfl
set_option maxRecDepth 100000 in
/-- A piece that comes in: its three cells. -/
theorem open_piece {H : Type} {enc : TypeId × Value → H} {w : World} {r : Reach} {b0 : Nat} {spare : Nat → Bool} {held : Bool} {v : Value} {d : DataW H} {p : List MemPlace} (hv : Value.okWide Tryz.prog w r b0 24 v) (h : DataW.Trod enc Tryz.prog w 0 spare held 24 v d p) :
    ∃ (κ : Int) (S : ByteArray) (A : Option Addr) (n c : Nat) (ts : List Tk), v = .agg #[.int .u8 κ, .string S, .slice A n c] ∧ ts.length = n ∧ See w w.heap.size A (tks ts) := by
  obtain ⟨cs, rfl⟩ : ∃ cs, v = .agg cs := by
    simp only [Value.okWide, Tryz.underlying24] at hv
    obtain ⟨cs, h1, _⟩ := hv
    exact ⟨cs, h1⟩
  obtain ⟨fuel, hf⟩ := h
  obtain ⟨xs, n, _, _, hlen, hxl, hff⟩ := DataW.trod_struct Tryz.underlying24 hf
  rw [cellsP] at hlen
  obtain ⟨cl⟩ := cs
  simp [Value.cells] at hlen hff
  match cl, hlen with
  | [e0, e1, e2], _ =>
    match xs, hxl with
    | [y0, y1, y2], _ =>
      have f0 := hff 0 _ rfl
      have f1 := hff 1 _ rfl
      have f2 := hff 2 _ rfl
      simp [tt_cells5] at f0
      simp [cells9] at f1
      simp [cellsT] at f2
      obtain ⟨κ, h0, _, _⟩ := DataW.trod_int Tryz.underlying5 f0
      obtain ⟨S, h1, _, _⟩ := DataW.trod_string Tryz.underlying9 f1
      simp at h0 h1
      subst h0 h1
      rcases DataW.trod_slice Tryz.underlying22 f2 with ⟨h2, _⟩ | ⟨a, len, cap, _, _, _, _, h2, _⟩
      · simp at h2
        subst h2
        exact ⟨κ, S, none, 0, 0, [], rfl, rfl, fun i d hd => by simp [tks] at hd⟩
      · simp at h2
        subst h2
        obtain ⟨ts, h3, h4⟩ := open_tokens (A := some a) (n := len) (c := cap) ⟨n, f2⟩
        exact ⟨κ, S, some a, len, cap, ts, rfl, h3, h4⟩

set_option maxRecDepth 100000 in
theorem lifted (os : Os) (started : os.Started) (H : Type) (enc : TypeId × Value → H) :
    ReturnsInHanded {} Tryz.checked os 3 .any (Rows.blockBitsSpec.pre6 enc Tryz.prog Tryz.f3 Rows.blockBitsRow.domain false) (Rows.blockBitsSpec.post enc Tryz.prog Tryz.f3 false true false false) := by
  refine returnsInHanded_of_change (C := Tryz.checked) own started (by kernel_rfl) Tryz.func3
    (ChangeSpec.witness6 (enc := enc) (C := Tryz.checked) false ⟨#[], #[.agg #[.int .u8 0, .string ByteArray.empty, .slice none 0 0], .bool false, .int .u8 0], []⟩ 8 (by kernel_rfl) (by kernel_rfl) (by kernel_rfl) (by kernel_rfl)) ?_
  intro W base args ds gs before hval0 hW hcnd _
  have hval : ∀ (j : Nat) t v, Tryz.f3.params[j]? = some t → args[j]? = some v → Value.okWide Tryz.prog W .any base t v := hval0
  have hW' := hW
  obtain ⟨p, q, hA0, hV, rfl, hfz, hnd⟩ := hW
  have hA : DataW.TrodAll enc Tryz.prog W 0 (fun _ => true) true Tryz.f3.params.toList args.toList ds p := hA0
  rw [Tryz.params3] at hA hval
  obtain ⟨v0, vs0, d0, ds0, p0, q0, hargs, rfl, rfl, h0, r0⟩ := trodAll_cons hA
  obtain ⟨v1, vs1, d1, ds1, p1, q1, rfl, rfl, rfl, h1, r1⟩ := trodAll_cons r0
  obtain ⟨v2, vs2, d2, ds2, p2, q2, rfl, rfl, rfl, h2, r2⟩ := trodAll_cons r1
  obtain ⟨rfl, rfl, rfl⟩ := trodAll_nil r2
  obtain rfl : args = #[v0, v1, v2] := by cases args; simp_all
  obtain ⟨rfl, rfl⟩ := trodVars_none hV
  obtain ⟨a1, rfl, rfl, rfl⟩ := open_bool Tryz.underlying4 (hval 1 4 v1 rfl rfl) h1
  obtain ⟨a2, rfl, rfl, rfl, w2⟩ := open_int Tryz.underlying5 (hval 2 5 v2 rfl rfl) h2
  have k0 := h0
  have lt0 : ∀ x ∈ p0, x.block < W.heap.size := by obtain ⟨m, hm⟩ := k0; exact DataW.trod_lt m _ _ _ hm
  obtain ⟨κ, S, A, n, c, ts, rfl, hn, hS⟩ := open_piece (hval 0 24 v0 rfl rfl) h0
  obtain ⟨k, rfl⟩ : ∃ k : Nat, a2 = (k : Int) := by
    have hwf := w2
    simp only [Lit.wf, Bool.and_eq_true, decide_eq_true_eq] at hwf
    have e1 : IntKind.u8.min = 0 := by decide
    exact ⟨a2.toNat, by omega⟩
  clear hA0 hval0
  refine (bits11 κ S A n c ts a1 k W hS hn).mono fun e W' ⟨he, only⟩ => ?_
  have bel := only.below W.heap.size (Nat.le_refl _) fun _ _ f => f
  subst he
  exact ⟨_, rfl, _, _, _, [], _, [], hW', trodAll_mk1 (shut_bool Tryz.underlying4 _), (trodAll_cons_mk (Below.trod laidOut (by kernel_rfl) (of_decide_eq_true (by kernel_rfl)) k0 bel lt0) (trodAll_cons_mk (shut_bool Tryz.underlying4 _) (trodAll_cons_mk (shut_int Tryz.underlying5 w2) trodAll_mk0))), rfl, bel.frame _, fun h => by cases h⟩

theorem over : Rows.blockBitsRow.holds Tryz.pinned (OpenSpec.ofChange Rows.blockBitsSpec) :=
  OpenClaim.holds_of_wide 3 Tryz.f3 rfl rfl rfl rfl rfl rfl rfl ⟨rfl, rfl, rfl, rfl, rfl⟩ rfl rfl rfl rfl rfl (by kernel_rfl) Tryz.func3 (by kernel_rfl)
    (of_decide_eq_true (by kernel_rfl)) (by unfold Func.isWrapper; first | (rw [if_pos (by decide +kernel)]; kernel_rfl) | (rw [if_neg (by decide +kernel)]; exact ⟨rfl, rfl⟩))
    (fun os started H enc _ => lifted os started H enc)
end Go.Proofs.YtjlkjebmilfgoaaGreat.blockBits
namespace Go.Proofs.YtjlkjebmilfgoaaGreat
theorem blockBits_holds : Rows.BlockBitsSaid := blockBits.over
#print axioms blockBits_holds
end Go.Proofs.YtjlkjebmilfgoaaGreat
