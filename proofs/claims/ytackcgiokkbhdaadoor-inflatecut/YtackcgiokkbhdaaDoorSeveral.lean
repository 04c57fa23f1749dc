/- Layer 8, the program: bytes said once more. -/
import Derived.Test.YtackcgiokkbhdaaDoorSaid
import Derived.Test.YtackcgiokkbhdaaDoorMoves
namespace Go.Proofs.YtackcgiokkbhdaaDoor
open Go.RowKit

theorem step_append_row {P : Program} {k : IntKind} {B : Nat} {w : World} {ops : Array Oper} {o : Oper} {a : Act} {K : Act → World → Prop} {Q : Exit → Act → World → Prop} {E : Prop} (hgd : o.guard = none) (s x : Operand) (t tx e : TypeId)
    (ho : o.op = .call { callee := .builtin .append, args := #[s, x], argTypes := #[t, tx] }) (ht : P.underlying t = some (.slice e))
    (hi : (P.info? e).map (fun i => (i.zero, i.size, i.bytes)) = some (some (.int k 0), 1, B)) (A : Option Addr) (n c m : Nat) (l r : List Value) (y : Value) (hsv : a.eval s = .slice A n c) (hxv : a.eval x = y)
    (h : Row e w A n c l) (hr : r.length = m) (hs : Src P 1 tx y m r w) (hB : B ≤ 8) (hb : n + m ≤ 1099511627776)
    (hk : ∀ A' c' w', Row e w' A' (n + m) c' (l ++ r) → Only (Lies A) w w' → (A' = A ∨ A' = some ⟨w.heap.size, 0, none⟩) → K (a.put o.dst (.slice A' (n + m) c')) w') :
    if Region.wanted o (yielded ops a.tmps) = true then Oper.wp P o a w K Q else E := by
  have hw : Region.wanted o (yielded ops a.tmps) = true := by simp [Region.wanted, hgd]
  rw [if_pos hw]
  obtain ⟨A', c', w', hrun, h2, h3, h4⟩ := run_append_row (ty := o.type) ht hi h hr hs hB hb
  unfold Oper.wp execOp
  simp only [ho, resolve, invoke, builtin, Sem.run_bind, Sem.run_pure, Result.andThen_ok, List.map_toArray, List.map_cons, List.map_nil, hsv, hxv, hrun]
  exact hk A' c' w' h2 h3 h4

/-- Where saying once more stands. -/
def Cop (w : World) (b d : Nat) (s : ByteArray) (most : Int) (A : Option Addr) (kv p1 p2 : Value) (a3 far n k : Nat) (out : List UInt8) (wx : World) : Prop :=
  ∃ A' c', Str wx b d most A' (n + k) c' kv p1 p2 (copyF far k out) ∧ Rd wx b s a3 false ∧ Only (Mine b d A) w wx ∧ ∀ j, Lies A' j → Lies A j ∨ w.heap.size ≤ j

set_option maxRecDepth 100000 in
set_option maxHeartbeats 4000000 in
theorem several (b d lo T : Nat) (s : ByteArray) (a : Nat) (most : Int) (A : Option Addr) (n c : Nat) (kv p1 p2 : Value) (out : List UInt8) (l : List Nat) (y : Nat) (w : World) (h : Str w b d most A n c kv p1 p2 out) (hr : Rd w b s a false) (hT : Tab w lo T l) (hbl : b < lo)
    (hl : Low l) (h288 : l.length ≤ 288) (hs : s.size ≤ 1073741824) (ha : a ≤ 8 * s.size) (hn : n ≤ 100000) (hmost : most ≤ 100000) (hy1 : 257 ≤ y) (hy2 : y ≤ 1000) :
    Calls Tryd.prog 57 #[.pointer (some ⟨d, 0, none⟩), .int .i64 y, .pointer (some ⟨T, 0, none⟩)] w (Done w b d s most A kv p1 p2 (mBack (bitsOf s.data.toList) l most y a out)) := by
  have HL := Lib.hid (plen b d s a y w h.c0 h.ne hr hs ha hy1 hy2)
  have q1 := mLen_ok (bitsOf s.data.toList) y a
  have HD : Hid (∀ w2 a2, Only (· = b) w w2 → Rd w2 b s a2 false → a2 ≤ 8 * s.size → Calls Tryd.prog 73 #[.pointer (some ⟨d, 0, none⟩), .pointer (some ⟨T, 0, none⟩)] w2 (ValPost w2 b s (mDist (bitsOf s.data.toList) l a2))) :=
    Lib.hid fun w2 a2 ho hr2 ha2 => pdist b d lo T s l a2 w2 (h.read ho).c0 h.ne hr2 (hT.keep ho fun j h1 _ e => by omega) hbl hl h288 hs ha2 fun h0 => ⟨by have := (rdp_moves l _ a2 h0).2; rw [bits_len] at this; exact this, rdp_symbol l _ a2 h288⟩
  unfold mBack
  obtain ⟨⟨x1, a2, N⟩, hq1⟩ : ∃ q, mLen (bitsOf s.data.toList) y a = q := ⟨_, rfl⟩
  rw [hq1] at HL q1 ⊢
  simp only at q1 ⊢
  have H := Lib.hid h
  have HR := Lib.hid hr
  have hlen := h.len
  rw [hlen]
  clear hq1 h hr hT hl h288
  by_cases hx1 : x1 = 0
  · subst hx1
    rw [if_neg (by simp)]
    obtain ⟨k1, k2, k3, k4⟩ := q1 rfl
    rw [bits_len] at k2
    have hN : N ≤ 100000 := by
      have e1 : ∀ t : Fin 29, lv (257 + t.val) ≤ 258 ∧ lw (257 + t.val) ≤ 5 := by decide +kernel
      have e2 := e1 ⟨y - 257, by omega⟩
      rw [show 257 + (y - 257) = y from by omega] at e2
      have e3 := nm_lt (bitsOf s.data.toList) a (lw y)
      have e4 : 2 ^ lw y ≤ 2 ^ 5 := Nat.pow_le_pow_right (by decide) e2.2
      omega
    have q2 := mDist_ok (bitsOf s.data.toList) l a2
    have HD2 : Hid (∀ w2, Only (· = b) w w2 → Rd w2 b s a2 false → Calls Tryd.prog 73 #[.pointer (some ⟨d, 0, none⟩), .pointer (some ⟨T, 0, none⟩)] w2 (ValPost w2 b s (mDist (bitsOf s.data.toList) l a2))) := Lib.hid fun w2 ho hr2 => HD.out w2 a2 ho hr2 k2
    obtain ⟨⟨x2, a3, far⟩, hq2⟩ : ∃ q, mDist (bitsOf s.data.toList) l a2 = q := ⟨_, rfl⟩
    rw [hq2] at HD2 q2 ⊢
    simp only at q2 ⊢
    clear hq2 HD k1 k2 k3 k4 q1
    by_cases hx2 : x2 = 0
    · subst hx2
      rw [if_neg (by simp)]
      obtain ⟨k1, k2, k3, k4⟩ := q2 rfl
      clear q2
      have HX : Hid (∀ w2, Only (· = b) w w2 → Str w2 b d most A n c kv p1 p2 out) := Lib.hid fun w2 ho => H.out.read ho
      by_cases hfar : n < far
      · rw [if_pos hfar]
        have hf2 : (n : Int) < far := by omega
        clear k1 k2 k3 k4
        go_enter Tryd.func57, Tryd.ntmps57
        go_wp2_with fail
        refine HL.out.mono ?_
        rintro e w2 ⟨rfl, hr2, ho2⟩
        have HR2 := Lib.hid (hr2 rfl)
        have HO2 := Lib.hid ho2
        clear hr2 ho2 HL
        go_wp2_with fail
        refine (HD2.out w2 HO2.out HR2.out).mono ?_
        rintro e w3 ⟨rfl, hr3, ho3⟩
        have HO3 := Lib.hid (HO2.out.trans ho3)
        have c2 := (HX.out w3 HO3.out).is.cell 2 rfl
        clear hr3 ho3 HD2
        go_wp2
        go_ret
        exact ⟨rfl, HO3.out.mono fun _ e => .inl e, fun h => by cases h⟩
      · rw [if_neg hfar]
        have hf2 : ¬ (n : Int) < far := by omega
        by_cases hroom : most < (n : Int) + N
        · rw [if_pos hroom]
          have HT : Hid (∀ w2, Only (· = b) w w2 → Calls Tryd.prog 53 #[.pointer (some ⟨d, 0, none⟩), .int .i64 N] w2 (RoomPost w2 true)) := Lib.hid fun w2 ho => tooMany b d most A n c kv p1 p2 out N w2 true (HX.out w2 ho) (by omega) (by omega) (by simpa using hroom)
          clear k1 k2 k3 k4 hroom
          go_enter Tryd.func57, Tryd.ntmps57
          go_wp2_with fail
          refine HL.out.mono ?_
          rintro e w2 ⟨rfl, hr2, ho2⟩
          have HR2 := Lib.hid (hr2 rfl)
          have HO2 := Lib.hid ho2
          clear hr2 ho2 HL
          go_wp2_with fail
          refine (HD2.out w2 HO2.out HR2.out).mono ?_
          rintro e w3 ⟨rfl, hr3, ho3⟩
          have HO3 := Lib.hid (HO2.out.trans ho3)
          have c2 := (HX.out w3 HO3.out).is.cell 2 rfl
          clear hr3 ho3 HD2
          go_wp2_with fail
          refine (HT.out w3 HO3.out).mono ?_
          rintro e w4 ⟨rfl, k, rfl⟩
          go_wp2
          go_ret
          exact ⟨rfl, (HO3.out.mono fun _ e => .inl e).drewN k, fun h => by cases h⟩
        · rw [if_neg hroom]
          have HT : Hid (∀ w2, Only (· = b) w w2 → Calls Tryd.prog 53 #[.pointer (some ⟨d, 0, none⟩), .int .i64 N] w2 (RoomPost w2 false)) := Lib.hid fun w2 ho => tooMany b d most A n c kv p1 p2 out N w2 false (HX.out w2 ho) (by omega) (by omega) (by simpa using hroom)
          have HN : Hid (n + N ≤ 100000) := Lib.hid (by omega)
          have HDN : Hid (∀ wx, Cop w b d s most A kv p1 p2 a3 far n N out wx → Done w b d s most A kv p1 p2 (0, a3, copyF far N out) (.returned (.int .i64 0)) wx) := Lib.hid fun wx hc => by
            obtain ⟨A', c', g1, g2, g3, g4⟩ := hc
            refine ⟨rfl, g3, fun _ => ⟨A', c', ?_, g2, g4⟩⟩
            rw [copyF_length, hlen]
            exact g1
          clear hroom
          go_enter Tryd.func57, Tryd.ntmps57
          go_wp2_with fail
          refine HL.out.mono ?_
          rintro e w2 ⟨rfl, hr2, ho2⟩
          have HR2 := Lib.hid (hr2 rfl)
          have HO2 := Lib.hid ho2
          clear hr2 ho2 HL
          go_wp2_with fail
          refine (HD2.out w2 HO2.out HR2.out).mono ?_
          rintro e w3 ⟨rfl, hr3, ho3⟩
          have HO3 := Lib.hid (HO2.out.trans ho3)
          have HR3 := Lib.hid (hr3 rfl)
          have c2 := (HX.out w3 HO3.out).is.cell 2 rfl
          clear hr3 ho3 HD2
          go_wp2_with fail
          refine (HT.out w3 HO3.out).mono ?_
          rintro e w4 ⟨rfl, k, rfl⟩
          have HC : Hid (Cop w b d s most A kv p1 p2 a3 far n 0 out (w3.drewN k)) := Lib.hid ⟨A, c, (HX.out w3 HO3.out).new ((Only.refl _ w3).drewN k), HR3.out.drewN k, (HO3.out.mono fun _ e => .inl e).drewN k, fun j hj => .inl hj⟩
          clear HT HX HR3 HO3 c2 HR2 HO2 H HR
          go_wp2_with fail
          go_loopg [39] N (fun gk v wx => ∃ k : Nat, v = .int .i64 k ∧ k + gk ≤ N ∧ N ≤ k + gk ∧ Hid (Cop w b d s most A kv p1 p2 a3 far n k out wx))
          case atStart => exact ⟨0, rfl, by omega, by omega, HC⟩
          case round =>
            clear HC
            obtain ⟨k, rfl, hk, hk2, HC⟩ := hrel
            by_cases hlt : k < N
            · obtain ⟨A', c', g1, g2, g3, g4⟩ := HC.out
              have hl1 := copyF_length far k out
              obtain ⟨L, hL⟩ : ∃ L, n + k = L := ⟨_, rfl⟩
              rw [hL] at g1
              have hsn := copyF_snoc far k out
              have hl2 := g1.len
              rw [hl2] at hsn
              obtain ⟨g, e1, e2, _⟩ := g1.row.cell (bcells_at (copyF far k out) (L - far) (by omega))
              subst e1
              obtain ⟨yb, hyb⟩ : ∃ yb, (copyF far k out).getD (L - far) 0 = yb := ⟨_, rfl⟩
              rw [hyb] at hsn e2
              obtain ⟨z, hz⟩ : ∃ z, yb.toNat = z := ⟨_, rfl⟩
              rw [hz] at e2
              have d2 := g1.is.cell 2 rfl
              have eI : (L : Int) - (far : Int) = ((L - far : Nat) : Int) := by omega
              obtain ⟨i, hi⟩ : ∃ i, L - far = i := ⟨_, rfl⟩
              have hiL : i < L := by omega
              rw [hi] at eI e2
              have eW : IntKind.i64.wrap (i : Int) = (i : Int) := IntWalk.i64_in _ (by omega)
              have iL : (i : Int) < (L : Int) := by omega
              have i0 : 0 ≤ (i : Int) := by omega
              obtain ⟨wy, hwy⟩ : ∃ wy, wr.drew.alloc (.cells #[.int .u8 (z : Nat)] 5) = wy := ⟨_, rfl⟩
              have hoy : Only (fun _ => False) wr wy := by rw [← hwy]; exact ((Only.refl _ wr).drew).alloc _
              have hby : b < wy.heap.size := Nat.lt_of_lt_of_le g2.lt hoy.size
              have hS := Src.oneInt Tryd.underlying40 wr.drew .u8 z 1 5
              rw [hwy] at hS
              have gy := g1.new hoy
              have FIN : Hid (∀ A9 c9 w9, Row 5 w9 A9 (L + 1) c9 (bcells (copyF far k out) ++ [.int .u8 (z : Nat)]) → Only (Lies (some ⟨g, 0, none⟩)) wy w9 → (A9 = some ⟨g, 0, none⟩ ∨ A9 = some ⟨wy.heap.size, 0, none⟩) →
                  Cop w b d s most A kv p1 p2 a3 far n (k + 1) out (w9.setCell ⟨d, 2, none⟩ (.slice A9 (L + 1) c9)) ∧ w9.cell? ⟨d, 2, none⟩ = some (.slice (some ⟨g, 0, none⟩) L c') ∧ w9.frozen? ⟨d, 2, none⟩ = false) := Lib.hid fun A9 c9 w9 r1 r2 r3 => by
                rw [← hz, bcells_snoc] at r1
                obtain ⟨f1, f2, f3⟩ := gy.append hby r1 rfl r2 r3
                have i9 := gy.is.only r2 gy.nd
                refine ⟨⟨A9, c9, ?_, (g2.only hoy fun f => f).only f2 ?_, ?_, fun j hj => ?_⟩, i9.cell 2 rfl, i9.frozen 2⟩
                · rw [hsn, show n + (k + 1) = L + 1 from by omega]
                  exact f1
                · rintro (e | e)
                  · exact gy.ne e.symm
                  · exact gy.nb e
                · refine (g3.trans (hoy.mono fun _ f => f.elim)).andThen f2 ?_
                  rintro j (e | e)
                  · exact .inl (.inr (.inl e))
                  · exact (g4 j e).imp (fun x => .inr (.inr x)) id
                · rcases f3 j hj with e | e
                  · exact g4 j e
                  · exact .inr (Nat.le_trans (g3.trans (hoy.mono fun _ f => f.elim)).size e)
              have HRW := Lib.hid gy.row
              have d2y := gy.is.cell 2 rfl
              have HS := Lib.hid hS
              have B1 : (1 : Nat) ≤ 8 := by decide
              have B2 : L + 1 ≤ 1099511627776 := by have := HN.out; omega
              have hfz := g1.is.frozen 2
              clear g1 g2 g3 g4 gy hsn hl1 hl2 hyb hz hS hoy hby
              go_wp2_with fail
              go_region_law (first
                | (refine step_append_row (by rfl) (.tmp 45) (.tmp 59) 40 40 5 (by rfl) Tryd.underlying40 info5 (some ⟨g, 0, none⟩) L c' 1 (bcells (copyF far k out)) [.int .u8 (z : Nat)] (.slice (some ⟨wr.heap.size, 0, none⟩) 1 1) (by rfl) (by rfl) (by first | exact HRW.out | (rw [hwy]; exact HRW.out)) rfl (by first | exact HS.out | (rw [hwy]; exact HS.out)) B1 B2 ?_
                   intro A9 c9 w9 hrow9 honly9 hlies9
                   try rw [hwy] at honly9 hlies9
                   obtain ⟨H9, k1', k2'⟩ := FIN.out A9 c9 w9 hrow9 honly9 hlies9
                   have H9 := Lib.hid H9
                   clear hrow9 honly9 hlies9))
              all_goals
                go_wp2_with fail
                go_roundg (gk - 1)
                case measure => omega
                case rel => exact ⟨k + 1, by go_num, by omega, by omega, H9⟩
            · obtain rfl : k = N := by omega
              have HF := Lib.hid (HDN.out wr HC.out)
              clear HC HDN
              go_wp2
              go_ret
              exact HF.out
    · rw [if_pos hx2]
      have hx3 : ¬ (x2 : Int) = 0 := by omega
      clear q2 hx2
      go_enter Tryd.func57, Tryd.ntmps57
      go_wp2_with fail
      refine HL.out.mono ?_
      rintro e w2 ⟨rfl, hr2, ho2⟩
      have HR2 := Lib.hid (hr2 rfl)
      have HO2 := Lib.hid ho2
      clear hr2 ho2 HL
      go_wp2_with fail
      refine (HD2.out w2 HO2.out HR2.out).mono ?_
      rintro e w3 ⟨rfl, hr3, ho3⟩
      have HO3 := Lib.hid (HO2.out.trans ho3)
      clear hr3 ho3 HD2
      go_wp2
      go_ret
      exact ⟨rfl, HO3.out.mono fun _ e => .inl e, fun h => absurd h (by simp; omega)⟩
  · rw [if_pos hx1]
    have hx3 : ¬ (x1 : Int) = 0 := by omega
    clear q1 hx1 HD
    go_enter Tryd.func57, Tryd.ntmps57
    go_wp2_with fail
    refine HL.out.mono ?_
    rintro e w2 ⟨rfl, hr2, ho2⟩
    have HO2 := Lib.hid ho2
    clear hr2 ho2 HL
    go_wp2
    go_ret
    exact ⟨rfl, HO2.out.mono fun _ e => .inl e, fun h => absurd h (by simp; omega)⟩
end Go.Proofs.YtackcgiokkbhdaaDoor
