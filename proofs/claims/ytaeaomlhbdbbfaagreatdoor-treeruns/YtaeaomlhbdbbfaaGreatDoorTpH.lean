/- Layer 15, the landed program: what is at a path is taken away; may a node be. -/
import Derived.Test.YtaeaomlhbdbbfaaGreatDoorTpF
import Derived.Test.YtaeaomlhbdbbfaaGreatDoorRpD
namespace Go.Proofs.YtaeaomlhbdbbfaaGreatDoor
open Go.RowKit

set_option maxRecDepth 20000 in
set_option maxHeartbeats 8000000 in
theorem premove0 (g : Nat) (A : Option Addr) (c : Nat) (ps : List Nd) (p : List UInt8) (w : World) (h : TrAt w g A c ps) (hb : ps.length ≤ 6000) (hs : Srt ps) (hin : ShortP ps) (hne : ∀ n ∈ ps, n.path ≠ []) (hp : p.length ≤ 2000) (ht : thereT ps p = true) : Calls Tryz.prog 9 #[.pointer (some ⟨g, 0, none⟩), .string (tx p)] w fun e w' => e = .returned (.int .i64 ((hiT ps p - loT ps p + 1 : Nat) : Int)) ∧ EdT w g A (dropT ps p true) w' := by
  obtain ⟨m, hm⟩ : ∃ m, ps.length = m := ⟨_, rfl⟩
  have HFI := Lib.hid (pfind A m c _ ps p w h.row.see hm (by omega) hs (fun x hx => by have := hin x hx; omega) (by omega))
  have HT := Lib.hid h
  have hp0 : p ≠ [] := fun e => by
    obtain ⟨q1, q2⟩ := (there_iff ps p).1 ht
    exact hne _ (getD_mem nd0 ps _ q1) (by rw [q2, e])
  have HCL : Hid (∀ w1, Only (fun _ => False) w w1 → Calls Tryz.prog 10 #[.pointer (some ⟨g, 0, none⟩), .string (tx p)] w1 fun e w' => e = .returned (.int .i64 ((hiT ps p - loT ps p : Nat) : Int)) ∧ EdT w1 g A (dropT ps p false) w') := Lib.hid fun w1 o => pclear0 g A c ps p w1 (h.new o) hb hs hin hne hp
  have hlo : loT ps p = posT ps p + 1 := if_pos ht
  have hlt : posT ps p < m := by rw [← hm]; exact ((there_iff ps p).1 ht).1
  have hlh := lo_hi ps p
  have hle := hi_le ps p
  have HD1 := Lib.hid (drop_range hs hne p)
  have hdl : (dropT ps p false).length = loT ps p + (m - hiT ps p) := by
    rw [HD1.out, List.length_append, List.length_take, List.length_drop, hm]
    omega
  have HD2 : Hid ((dropT ps p false).take (posT ps p) ++ (dropT ps p false).drop (posT ps p + 1) = dropT ps p true) := Lib.hid (by
    rw [HD1.out, drop_self hs hp0 ht, hlo, List.take_append_of_le_length (by rw [List.length_take]; omega), List.take_take, Nat.min_eq_left (by omega), List.drop_left' (by rw [List.length_take]; omega)])
  have dg : w.cell? ⟨g, 0, none⟩ = some (.slice A m c) := by rw [← hm]; exact h.hold.cell 0 rfl
  rw [hm] at hb hle
  rw [ht] at HFI
  clear hs hin hne hp h hp0 ht hm HD1
  generalize loT ps p = lo at *
  generalize hiT ps p = hi at *
  generalize posT ps p = po at *
  generalize dropT ps p true = qs at *
  generalize dropT ps p false = rs at *
  obtain ⟨m2, hm2⟩ : ∃ m2, rs.length = m2 := ⟨_, rfl⟩
  have HM2 := Lib.hid hm2
  obtain ⟨k, hk⟩ : ∃ k, hi - lo = k := ⟨_, rfl⟩
  rw [hk] at HCL ⊢
  have hk1 : k ≤ 6000 := by omega
  have hq : po + 1 ≤ m2 := by omega
  have hm26 : m2 ≤ 6000 := by omega
  have hpo1 : ((po + 1 : Nat) : Int) = (po : Int) + 1 := by omega
  clear hk hlo hlh hm2 hdl
  go_enter Tryz.func9, Tryz.ntmps9
  go_wp2_with (first
    | (go_at_call 31; refine HFI.out.mono ?_; rintro e w1 ⟨rfl, o1⟩; have HO := Lib.hid o1; clear o1)
    | (go_at_call 10; refine (HCL.out _ HO.out).mono ?_; rintro e w2 ⟨rfl, A2, c2, t2, l2, o2⟩
       have HT2 := Lib.hid t2
       have HL2 := Lib.hid l2
       have HO2 := Lib.hid o2
       have d2 : w2.cell? ⟨g, 0, none⟩ = some (.slice A2 m2 c2) := by have := t2.hold.cell 0 rfl; rw [HM2.out] at this; exact this
       have HDL : Hid (∀ w3, Only (fun _ => False) w2 w3 → Calls Tryz.prog 32 #[.slice A2 m2 c2, .int .i64 po, .int .i64 ((po : Int) + 1)] w3 (EditP w3 A2 qs)) := Lib.hid fun w3 o => by
         rw [← HD2.out, ← hpo1]
         exact pdelete A2 m2 c2 rs po (po + 1) w3 (by have := (HT2.out.new o).row; rw [HM2.out] at this; exact this) HM2.out (by omega) (by omega) hq
       clear t2 l2 o2)
    | (go_at_call 32; refine (HDL.out _ (Only.refl _ _)).mono ?_; rintro e w3 ⟨A3, c3, rfl, r1, r2, r3⟩; obtain ⟨d3, f3, ed⟩ := EdT.back HT2.out (Only.refl _ _) rfl r1 r2 r3; have HE := Lib.hid ed; clear r1 r2 r3 ed))
  go_ret
  exact ⟨by go_num, EdT.from HO.out (EdT.step HL2.out HO2.out HE.out)⟩
set_option maxRecDepth 20000 in
set_option maxHeartbeats 4000000 in
theorem premove1 (g : Nat) (A : Option Addr) (c : Nat) (ps : List Nd) (p : List UInt8) (w : World) (h : TrAt w g A c ps) (hb : ps.length ≤ 6000) (hs : Srt ps) (hin : ShortP ps) (hp : p.length ≤ 2000) (ht : thereT ps p = false) : Calls Tryz.prog 9 #[.pointer (some ⟨g, 0, none⟩), .string (tx p)] w fun e w' => e = .returned (.int .i64 0) ∧ EdT w g A ps w' := by
  obtain ⟨m, hm⟩ : ∃ m, ps.length = m := ⟨_, rfl⟩
  have HFI := Lib.hid (pfind A m c _ ps p w h.row.see hm (by omega) hs (fun x hx => by have := hin x hx; omega) (by omega))
  have HT := Lib.hid h
  have dg : w.cell? ⟨g, 0, none⟩ = some (.slice A m c) := by rw [← hm]; exact h.hold.cell 0 rfl
  rw [ht] at HFI
  clear hs hin hp h ht hm
  generalize posT ps p = po at *
  go_enter Tryz.func9, Tryz.ntmps9
  go_wp2_with (go_at_call 31; refine HFI.out.mono ?_; rintro e w1 ⟨rfl, o1⟩; have HO := Lib.hid o1; clear o1)
  go_ret
  exact ⟨rfl, EdT.start HT.out HO.out⟩
end Go.Proofs.YtaeaomlhbdbbfaaGreatDoor
