/- The document's writer of layer 1: Write. -/
import Derived.Test.YthocfdkheikeoaaRefWr
import Derived.Deep.RegionLaw
namespace Go.Proofs.Ythocfdkheikeoaa
open Go.RowKit

theorem Src.ofRow {P : Program} {tx e : TypeId} (hk : P.underlying tx = some (.slice e)) {w : World} {A : Option Addr} {n c : Nat} {l : List UInt8} (h : Row e w A n c l) : Src P 1 tx (.slice A n c) n (bcells l) w := by
  rcases h.form with ⟨rfl, rfl, rfl, rfl⟩ | ⟨g, cur, rfl, _⟩
  · exact Src.ofNil w hk 0
  · refine Src.ofSlice w hk _ n c _ (by simpa [bcells] using h.1) (h.2.cells (g := g) rfl) ?_
    intro u hu
    obtain ⟨_, _, rfl⟩ := List.mem_map.1 hu
    rfl

/-- append inside a region that draws its order. -/
theorem step_append_row {P : Program} {w : World} {ops : Array Oper} {o : Oper} {a : Act} {K : Act → World → Prop} {Q : Exit → Act → World → Prop} {E : Prop} (hgd : o.guard = none) (s x : Operand) (t tx e : TypeId)
    (ho : o.op = .call { callee := .builtin .append, args := #[s, x], argTypes := #[t, tx] }) (ht : P.underlying t = some (.slice e))
    (hi : (P.info? e).map (fun i => (i.zero, i.size, i.bytes)) = some (some (.int .u8 0), 1, 1)) (A : Option Addr) (n c m : Nat) (l r : List UInt8) (y : Value) (hsv : a.eval s = .slice A n c) (hxv : a.eval x = y)
    (h : Row e w A n c l) (hr : r.length = m) (hs : Src P 1 tx y m (bcells r) w) (hb : n + m ≤ 140737488355328)
    (hk : ∀ A' c' w', Row e w' A' (n + m) c' (l ++ r) → Only (Lies A) w w' → (A' = A ∨ A' = some ⟨w.heap.size, 0, none⟩) → K (a.put o.dst (.slice A' (n + m) c')) w') :
    if Region.wanted o (yielded ops a.tmps) = true then Oper.wp P o a w K Q else E := by
  have hw : Region.wanted o (yielded ops a.tmps) = true := by simp [Region.wanted, hgd]
  rw [if_pos hw]
  obtain ⟨A', c', w', hrun, h2, h3, h4⟩ := run_append_row (ty := o.type) ht hi h hr hs hb
  unfold Oper.wp execOp
  simp only [ho, resolve, invoke, builtin, Sem.run_bind, Sem.run_pure, Result.andThen_ok, List.map_toArray, List.map_cons, List.map_nil, hsv, hxv, hrun]
  exact hk A' c' w' h2 h3 h4

set_option maxHeartbeats 4000000 in
theorem rwrite (b : Nat) (A : Option Addr) (n c : Nat) (l : List UInt8) (s : ByteArray) (w : World) (h : RW w b A n c l) (hn : n ≤ 1073741) (hs : s.size ≤ 1073741) :
    Calls Try.prog 25 #[.pointer (some ⟨b, 0, none⟩), .string s] w fun e w' => e = .returned (.tuple #[]) ∧ RWPost b A (l ++ List.replicate ((n + 7) / 8 * 8 - n) 0 ++ bitsOf s.data.toList) w w' := by
  go_enter Try.func25, Try.ntmps25
  go_wp2_with fail
  refine (ralign b A n c l w h (by omega)).mono ?_
  obtain ⟨l1, hl1⟩ : ∃ l1, l ++ List.replicate ((n + 7) / 8 * 8 - n) 0 = l1 := ⟨_, rfl⟩
  have hl1n : l1.length ≤ n + 7 := by rw [← hl1, List.length_append, h.2.len, List.length_replicate]; omega
  rw [hl1]
  have HL1 := Lib.hid hl1
  rintro e w1 ⟨rfl, A1, n1, c1, hw1, ho1, ha1⟩
  have hn1 : n1 ≤ n + 7 := by rw [← hw1.2.len]; exact hl1n
  have c0 := hw1.1.cell 0 rfl
  have hlt := hw1.1.lt
  have HW1 := Lib.hid hw1
  have HO1 := Lib.hid ho1
  have HA1 := Lib.hid ha1
  clear h hl1 hl1n hw1 ho1 ha1
  go_upto_region 1 with fail
  go_region_law
    (first
      | (go_simp
         go_at_call 9
         refine (of s w1.drew (by omega)).mono ?_
         rintro e w2 ⟨A2, c2, rfl, hm2⟩
         have c02 : w2.cell? ⟨b, 0, none⟩ = some (.slice A1 n1 c1) := (HW1.out.1.drew.only hm2.2.1 id).cell 0 rfl
         have HM2 := Lib.hid hm2
         clear hm2)
      | (refine step_append_row (by rfl) (.tmp 10) (.tmp 12) 27 27 5 (by rfl) Try.underlying27 info5 A1 n1 c1 (8 * s.size) l1 (bitsOf s.data.toList) (.slice A2 (8 * s.size) c2) (by rfl) (by rfl) (HW1.out.2.drew.only HM2.out.2.1 (fun _ _ f => f)) (by rw [bitsOf_length]; simp) (Src.ofRow Try.underlying27 HM2.out.1) (by omega) ?_
         intro A3 c3 w3 hrow3 honly3 hlies3
         have hI3 : Is w3 b 44 [.slice A1 n1 c1] := (HW1.out.1.drew.only HM2.out.2.1 id).only honly3 (HW1.out.2.ne HW1.out.1 (by decide))
         have c03 := hI3.cell 0 rfl
         have f03 := hI3.frozen 0
         have HI3 := Lib.hid hI3
         have HR3 := Lib.hid hrow3
         have HO3 := Lib.hid honly3
         have HL3 := Lib.hid hlies3
         clear hI3 hrow3 honly3 hlies3))
  all_goals
    go_wp2
    go_end0
    have h2 : Only (fun j => j = b ∨ Lies A j) w w2 := (HO1.out.drew).andThen HM2.out.2.1 (fun _ f => f.elim)
    have hlow : ∀ j, Lies A1 j → (j = b ∨ Lies A j) ∨ w.heap.size ≤ j := by
      rintro j ⟨ad, e1, e2⟩
      rcases HA1.out with e3 | ⟨g, e3, e4⟩
      · exact .inl (.inr ⟨ad, e3 ▸ e1, e2⟩)
      · rw [e3] at e1
        obtain rfl := Option.some.inj e1
        exact .inr (by rw [← e2]; exact e4)
    refine ⟨rfl, A3, n1 + 8 * s.size, c3, ⟨HI3.out.set 0 _, ?_⟩, ?_, ?_⟩
    · rw [HL1.out]
      refine HR3.out.only (Only.one w3 b 0 _) ?_
      rintro j hj rfl
      exact HR3.out.ne HI3.out (by decide) hj
    · exact (h2.andThen HO3.out hlow).andThen (Only.one w3 b 0 _) (fun j e => .inl (.inl e))
    · rcases HL3.out with e | e
      · rw [e]; exact HA1.out
      · exact .inr ⟨_, e, h2.size⟩
end Go.Proofs.Ythocfdkheikeoaa
