/- Layer 5: a copy of a row of numbers (slices.Clone). -/
import Derived.Test.YtackcgiokkbhdaaDoorRefCodes
namespace Go.Proofs.YtackcgiokkbhdaaDoor
open Go.RowKit

theorem Made.later {e : TypeId} {w w1 w2 : World} {A : Option Addr} {n c : Nat} {vs : List Value} (h : Made e w1 A n c vs w2) (o : Only (fun _ => False) w w1) : Made e w A n c vs w2 :=
  ⟨h.1, o.trans h.2.1, fun j hj => Nat.le_trans o.size (h.2.2 j hj)⟩

theorem See.src {P : Program} {tx e : TypeId} (hk : P.underlying tx = some (.slice e)) {w : World} {B n c : Nat} {a : Addr} {vs : List Value} (h : See w B (some a) vs) (hn : vs.length = n) (h1 : ∀ v ∈ vs, v.oneCell' = true) : Src P 1 tx (.slice (some a) n c) n vs w := by
  refine Src.ofSlice w hk a n c vs (by omega) (fun j u hu => ?_) h1
  obtain ⟨b, off, e1, _, hc⟩ := h j u hu
  obtain rfl := Option.some.inj e1
  rw [Addr.add_lit]
  exact hc
def ClonePost (w : World) (vs : List Value) (n : Nat) (e : Ending) (w' : World) : Prop := ∃ A c, e = .returned (.slice A n c) ∧ Made 3 w A n c vs w'

set_option maxHeartbeats 1000000 in
theorem clone (A : Option Addr) (n c B : Nat) (vs : List Value) (w : World) (h : See w B A vs) (hn : vs.length = n) (hb : n ≤ 1000000) (h1 : ∀ v ∈ vs, v.oneCell' = true) :
    Calls Tryd.prog 88 #[.slice A n c] w (ClonePost w vs n) := by
  cases A with
  | none =>
    have hv : vs = [] := by
      cases vs with
      | nil => rfl
      | cons v r => obtain ⟨b, off, e, _⟩ := h 0 v rfl; cases e
    subst hv
    obtain rfl : n = 0 := by simpa using hn.symm
    clear h hn h1 hb
    have hE : (binOp .eql 26 (.slice none 0 c) (.slice none 0 0)).run Tryd.prog w = .ok (.bool true) w := by kernel_rfl
    go_enter Tryd.func88, Tryd.ntmps88
    go_wp2
    go_ret
    exact ⟨none, 0, rfl, Row.nil 3 w, Only.refl _ w, by rintro j ⟨ad, e, _⟩; cases e⟩
  | some a =>
    have HS := Lib.hid h
    have HN := Lib.hid hn
    have H1 := Lib.hid h1
    clear h hn h1
    have hE : (binOp .eql 26 (.slice (some a) n c) (.slice none 0 0)).run Tryd.prog w = .ok (.bool false) w := by kernel_rfl
    go_enter Tryd.func88, Tryd.ntmps88
    go_wp2_with (at_builtin
                 refine wpList_append_row rfl (.tmp 5) (.tmp 6) 26 26 3 rfl Tryd.underlying26 info3 (some ⟨w.heap.size, 0, none⟩) 0 0 n [] vs (.slice (some a) n c) rfl rfl (Row.of_is (Is.new w 3 []) rfl (by unfold maxLen; omega)) HN.out (See.src Tryd.underlying26 (HS.out.new ((Only.refl _ w).alloc _)) HN.out H1.out) (by omega) (by omega) ?_
                 intro A2 c2 w2 hrow2 honly2 hlies2
                 have HR := Lib.hid hrow2
                 have HO := Lib.hid honly2
                 have HL := Lib.hid hlies2
                 clear hrow2 honly2 hlies2)
    go_ret
    have hr := HR.out
    rw [Nat.zero_add, List.nil_append] at hr
    refine ⟨A2, c2, rfl, hr, ((Only.refl _ w).alloc _).andThen HO.out ?_, ?_⟩
    · rintro j ⟨ad, e1, rfl⟩
      obtain rfl := Option.some.inj e1
      exact .inr (Nat.le_refl _)
    · rintro j ⟨ad, e1, rfl⟩
      rcases HL.out with e | e
      · rw [e] at e1
        obtain rfl := Option.some.inj e1
        exact Nat.le_refl _
      · rw [e] at e1
        obtain rfl := Option.some.inj e1
        simp
end Go.Proofs.YtackcgiokkbhdaaDoor
