/- Layer 16: that the program is awake. -/
import Derived.Test.YtmdfkchgklphlaaWvT
namespace Go.Proofs.Ytmdfkchgklphlaa
open Go.RowKit
variable {G : World → Prop}

/-- The two rows of the law's own. -/
def rowsA (X : Nat) : List TRow := [⟨some ⟨X, 0, none⟩, 2, 2, [[98], [97]]⟩, ⟨some ⟨X + 1, 0, none⟩, 2, 2, [[99], [98]]⟩]
theorem rowsA_small (X : Nat) : smallW (rowsA X) := by
  refine ⟨by show 2 ≤ 8; omega, fun r hr => ?_⟩
  rw [rowsA, List.mem_cons, List.mem_singleton] at hr
  rcases hr with rfl | rfl
  · exact ⟨show 2 ≤ 20 by decide, show ∀ x ∈ [[98], [97]], x.length ≤ 60 by decide⟩
  · exact ⟨show 2 ≤ 20 by decide, show ∀ x ∈ [[99], [98]], x.length ≤ 60 by decide⟩
theorem rowsA_at {w1 : World} {X : Nat} {T S : TypeId} (h0 : Is w1 X T [.string (tx [98]), .string (tx [97])]) (h1 : Is w1 (X + 1) T [.string (tx [99]), .string (tx [98])]) (h2 : Is w1 (X + 1 + 1) S [.slice (some ⟨X, 0, none⟩) 2 2, .slice (some ⟨X + 1, 0, none⟩) 2 2]) : Rows2 w1 w1.heap.size (some ⟨X + 1 + 1, 0, none⟩) (rowsA X) := by
  refine ⟨h2.see, fun r hr => ?_⟩
  rw [rowsA, List.mem_cons, List.mem_singleton] at hr
  rcases hr with rfl | rfl
  · exact ⟨h0.see, rfl⟩
  · exact ⟨h1.see, rfl⟩
theorem rowsA_txts (X : Nat) : txts (rowsA X) = [[[98], [97]], [[99], [98]]] := rfl
theorem unionA : unionF [[[98], [97]], [[99], [98]]] = [[97], [98], [99]] := by decide +kernel
theorem commonA : commonF [[[98], [97]], [[99], [98]]] = [[98]] := by decide +kernel

/-- They are laid. -/
theorem madeA (w : World) : ∃ wa, ((w.alloc (.cells #[.string ⟨#[98]⟩, .string ⟨#[97]⟩] 9)).alloc (.cells #[.string ⟨#[99]⟩, .string ⟨#[98]⟩] 9)).alloc (.cells #[.slice (some ⟨w.heap.size, 0, none⟩) 2 2, .slice (some ⟨w.heap.size + 1, 0, none⟩) 2 2] 26) = wa ∧
    Only (fun _ => False) w wa ∧ Rows2 wa wa.heap.size (some ⟨w.heap.size + 1 + 1, 0, none⟩) (rowsA w.heap.size) := by
  refine ⟨_, rfl, (((Only.refl _ w).alloc _).alloc _).alloc _, rowsA_at (T := 9) (S := 26) (((Is.new w _ _).alloc _).alloc _) ((Is.new2 w _ _ _).alloc _) ?_⟩
  have := Is.new2 (w.alloc (.cells #[.string ⟨#[98]⟩, .string ⟨#[97]⟩] 9)) (.cells #[.string ⟨#[99]⟩, .string ⟨#[98]⟩] 9) 26 [.slice (some ⟨w.heap.size, 0, none⟩) 2 2, .slice (some ⟨w.heap.size + 1, 0, none⟩) 2 2]
  rw [World.size_alloc] at this
  exact this

set_option maxRecDepth 100000 in
set_option maxHeartbeats 4000000 in
theorem awake16 (C : WvC G) (w : World) (hg : G w) : Calls Try.prog 5 #[] w fun e w' => e = .returned (.bool true) ∧ Only (fun _ => False) w w' := by
  have HK : Hid (∀ w', Only (fun _ => False) w w' → G w') := Lib.hid fun w' k => C.keep w w' hg k
  clear hg
  go_enter Try.func5, Try.ntmps5
  go_wp2_with fail
  obtain ⟨wa, e, oa, ha⟩ := madeA w
  rw [e]
  clear e
  have HU := C.union _ 2 2 _ _ wa (HK.out wa oa) ha rfl (rowsA_small _)
  rw [rowsA_txts, unionA] at HU
  refine HU.mono ?_
  rintro e w1 ⟨⟨A1, c1, B1, rfl, h1⟩, o1⟩
  have O1 := Lib.hid (oa.trans o1)
  have HS1 := Lib.hid h1
  rw [show [[97], [98], [(99 : UInt8)]].length = 3 from rfl]
  clear HU ha oa h1 o1
  go_wp2_with fail
  obtain ⟨wb, e, ob, hb⟩ := madeA w1
  rw [e]
  clear e
  have HC := C.common _ 2 2 _ _ wb (HK.out wb (O1.out.trans ob)) hb rfl (rowsA_small _)
  rw [rowsA_txts, commonA] at HC
  refine HC.mono ?_
  rintro e w2 ⟨⟨A2, c2, B2, rfl, h2⟩, o2⟩
  have O2 := Lib.hid ((O1.out.trans ob).trans o2)
  rw [show [[(98 : UInt8)]].length = 1 from rfl]
  obtain ⟨b1, p1, e1, d1⟩ := See.str (i := 2) ((HS1.out.new ob).new o2) (by decide)
  obtain ⟨b2, p2, e2, d2⟩ := See.str (i := 0) h2 (by decide)
  subst e1 e2
  have d1' : w2.cell? ⟨b1, p1 + 2, none⟩ = some (.string ⟨#[99]⟩) := d1
  have d2' : w2.cell? ⟨b2, p2, none⟩ = some (.string ⟨#[98]⟩) := d2
  clear HC hb ob h2 o2 O1 HS1 d1 d2
  go_wp2_with fail
  obtain ⟨wc, e, oc, hc⟩ := madeA w2
  rw [e]
  clear e
  have O3 := Lib.hid (O2.out.trans oc)
  have HT := ltold C _ 2 2 _ _ 9 wc (HK.out wc O3.out) hc rfl (rowsA_small _) (Nat.le_refl _)
  refine HT.mono ?_
  rintro e w3 ⟨rfl, o3⟩
  have O4 := Lib.hid (O3.out.trans o3)
  clear HT hc oc o3 O2 O3
  go_wp2
  go_ret
  exact ⟨rfl, O4.out⟩
end Go.Proofs.Ytmdfkchgklphlaa
