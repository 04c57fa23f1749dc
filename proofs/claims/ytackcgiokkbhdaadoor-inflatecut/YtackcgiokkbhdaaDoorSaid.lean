/- Layer 8, the program: the stream in memory; whether there is room; a byte said. -/
import Derived.Test.YtackcgiokkbhdaaDoorAbove
import Derived.Test.YtackcgiokkbhdaaDoorRepeat
namespace Go.Proofs.YtackcgiokkbhdaaDoor
open Go.RowKit

/-- The stream's own block, and the row of what it has said. -/
structure Str (w : World) (b d : Nat) (most : Int) (A : Option Addr) (n c : Nat) (kv p1 p2 : Value) (out : List UInt8) : Prop where
  is : Is w d 53 [.pointer (some ⟨b, 0, none⟩), .int .i64 most, .slice A n c, kv, p1, p2]
  row : Row 5 w A n c (bcells out)
  len : out.length = n
  ne : d ≠ b
  nb : ¬ Lies A b
  nd : ¬ Lies A d
/-- What the stream turns. -/
def Mine (b d : Nat) (A : Option Addr) (j : Nat) : Prop := j = b ∨ j = d ∨ Lies A j

section
variable {w w' wx w2 : World} {b d : Nat} {most : Int} {A A2 : Option Addr} {n c c2 m : Nat} {kv p1 p2 : Value} {out r : List UInt8} {S : Nat → Prop}
theorem Str.keep (h : Str w b d most A n c kv p1 p2 out) (k : Only S w w') (hd : ¬ S d) (hA : ∀ j, Lies A j → ¬ S j) : Str w' b d most A n c kv p1 p2 out :=
  ⟨h.is.only k hd, h.row.only k hA, h.len, h.ne, h.nb, h.nd⟩
theorem Str.read (h : Str w b d most A n c kv p1 p2 out) (k : Only (· = b) w w') : Str w' b d most A n c kv p1 p2 out := h.keep k h.ne fun _ hj e => h.nb (e ▸ hj)
theorem Str.new (h : Str w b d most A n c kv p1 p2 out) (k : Only (fun _ => False) w w') : Str w' b d most A n c kv p1 p2 out := h.keep k (fun f => f) fun _ _ f => f
theorem Str.c0 (h : Str w b d most A n c kv p1 p2 out) : w.cell? ⟨d, 0, none⟩ = some (.pointer (some ⟨b, 0, none⟩)) := h.is.cell 0 rfl
/-- Bytes laid behind what is said, and the row laid into the stream. -/
theorem Str.append (h : Str wx b d most A n c kv p1 p2 out) (hb : b < wx.heap.size) (hr : Row 5 w2 A2 (n + m) c2 (bcells (out ++ r))) (hl : r.length = m) (ho : Only (Lies A) wx w2) (ha : A2 = A ∨ A2 = some ⟨wx.heap.size, 0, none⟩) :
    Str (w2.setCell ⟨d, 2, none⟩ (.slice A2 (n + m) c2)) b d most A2 (n + m) c2 kv p1 p2 (out ++ r) ∧ Only (fun j => j = d ∨ Lies A j) wx (w2.setCell ⟨d, 2, none⟩ (.slice A2 (n + m) c2)) ∧ ∀ j, Lies A2 j → Lies A j ∨ wx.heap.size ≤ j := by
  have hlies : ∀ j, Lies A2 j → Lies A j ∨ wx.heap.size ≤ j := by
    intro j hj
    rcases ha with e | e
    · exact .inl (e ▸ hj)
    · obtain ⟨ad, e1, e2⟩ := hj
      rw [e] at e1
      obtain rfl := Option.some.inj e1
      exact .inr (Nat.le_of_eq e2)
  have hdl := h.is.lt
  have hnd : ¬ Lies A2 d := fun hj => (hlies d hj).elim h.nd (fun x => by omega)
  refine ⟨⟨(h.is.only ho h.nd).set 2 _, hr.only (Only.one w2 d 2 _) (fun j hj e => hnd (e ▸ hj)), by rw [List.length_append, h.len, hl], h.ne, fun hj => (hlies b hj).elim h.nb (fun x => by omega), hnd⟩, ?_, hlies⟩
  exact (ho.mono fun j hj => .inr hj).trans ((Only.one w2 d 2 _).mono fun j hj => .inl hj)
end

/-- What comes of a call that may say bytes. -/
def Done (w : World) (b d : Nat) (s : ByteArray) (most : Int) (A : Option Addr) (kv p1 p2 : Value) (r : Ans) (e : Ending) (w' : World) : Prop :=
  e = .returned (.int .i64 r.1) ∧ Only (Mine b d A) w w' ∧ (r.1 = 0 → ∃ A' c', Str w' b d most A' r.2.2.length c' kv p1 p2 r.2.2 ∧ Rd w' b s r.2.1 false ∧ ∀ j, Lies A' j → Lies A j ∨ w.heap.size ≤ j)

def RoomPost (w : World) (q : Bool) (e : Ending) (w' : World) : Prop := e = .returned (.bool q) ∧ ∃ k, w' = w.drewN k

set_option maxHeartbeats 1000000 in
theorem tooMany (b d : Nat) (most : Int) (A : Option Addr) (n c : Nat) (kv p1 p2 : Value) (out : List UInt8) (x : Nat) (w : World) (q : Bool) (h : Str w b d most A n c kv p1 p2 out) (hn : n ≤ 1000000) (hx : x ≤ 1000000) (hq : decide (most < (n : Int) + x) = q) :
    Calls Tryd.prog 53 #[.pointer (some ⟨d, 0, none⟩), .int .i64 x] w (RoomPost w q) := by
  have c1 := h.is.cell 1 rfl
  have c2 := h.is.cell 2 rfl
  have e1 : IntKind.i64.wrap ((n : Int) + x) = (n : Int) + x := IntWalk.i64_in _ (by omega)
  have HQ := Lib.hid hq
  clear h hq
  go_enter Tryd.func53, Tryd.ntmps53
  go_wp2
  go_quiet (fail)
  go_wp2
  go_ret
  refine ⟨?_, _, rfl⟩
  rw [← HQ.out]
  rfl

def mOne (most : Int) (a : Nat) (y : UInt8) (out : List UInt8) : Ans := if most < out.length + 1 then (7, a, out) else (0, a, out ++ [y])

set_option maxRecDepth 20000 in
set_option maxHeartbeats 1000000 in
theorem one (b d : Nat) (s : ByteArray) (a : Nat) (most : Int) (A : Option Addr) (n c : Nat) (kv p1 p2 : Value) (out : List UInt8) (y : UInt8) (w : World) (h : Str w b d most A n c kv p1 p2 out) (hr : Rd w b s a false) (hn : n ≤ 1000000) :
    Calls Tryd.prog 56 #[.pointer (some ⟨d, 0, none⟩), .int .u8 y.toNat] w (Done w b d s most A kv p1 p2 (mOne most a y out)) := by
  unfold mOne
  rw [h.len]
  by_cases hlt : most < (n : Int) + 1
  · rw [if_pos hlt]
    have HT := Lib.hid (tooMany b d most A n c kv p1 p2 out 1 w true h hn (by decide) (by simpa using hlt))
    clear h hr hlt
    go_enter Tryd.func56, Tryd.ntmps56
    go_wp2_with fail
    refine HT.out.mono ?_
    rintro e w2 ⟨rfl, k, rfl⟩
    go_wp2
    go_ret
    exact ⟨rfl, (Only.refl _ w).drewN k, fun h => by cases h⟩
  · rw [if_neg hlt]
    have HT := Lib.hid (tooMany b d most A n c kv p1 p2 out 1 w false h hn (by decide) (by simpa using hlt))
    have c2 : ∀ k, (w.drewN k).cell? ⟨d, 2, none⟩ = some (.slice A n c) := fun k => (h.is.drewN k).cell 2 rfl
    have H := Lib.hid h
    have HR := Lib.hid hr
    have hbl := hr.lt
    obtain ⟨z, hz⟩ : ∃ z, y.toNat = z := ⟨_, rfl⟩
    rw [hz]
    clear h hr hlt
    go_enter Tryd.func56, Tryd.ntmps56
    go_wp2_with fail
    refine HT.out.mono ?_
    rintro e w2 ⟨rfl, k, rfl⟩
    have c22 := c2 k
    have HX : Hid (Str (w.drewN k) b d most A n c kv p1 p2 out) := Lib.hid (H.out.new ((Only.refl _ w).drewN k))
    have HRX : Hid (Rd (w.drewN k) b s a false) := Lib.hid (HR.out.drewN k)
    have HOX : Hid (Only (fun _ => False) w (w.drewN k)) := Lib.hid ((Only.refl _ w).drewN k)
    have hbx : b < (w.drewN k).heap.size := hbl
    obtain ⟨wx, hwx⟩ : ∃ wx, w.drewN k = wx := ⟨_, rfl⟩
    rw [hwx] at c22 HX HRX HOX hbx ⊢
    clear c2 HT H HR hwx hbl
    have HY : Hid (Str (wx.alloc (.cells #[.int .u8 (z : Nat)] 5)) b d most A n c kv p1 p2 out) := Lib.hid (HX.out.new ((Only.refl _ wx).alloc _))
    have hwy : ∃ wy, wx.alloc (.cells #[.int .u8 (z : Nat)] 5) = wy := ⟨_, rfl⟩
    obtain ⟨wy, hwy⟩ := hwy
    have hby : b < wy.heap.size := by rw [← hwy]; simp; omega
    have HS := Lib.hid (Src.oneInt Tryd.underlying40 wx .u8 z 1 5)
    have HOY : Hid (Only (fun _ => False) wx wy) := Lib.hid (hwy ▸ (Only.refl _ wx).alloc _)
    rw [hwy] at HY HS
    go_upto_region 3 with fail
    go_wp2_with (at_builtin
                 refine wpList_append_row rfl (.tmp 11) (.tmp 13) 40 40 5 rfl Tryd.underlying40 info5 A n c 1 (bcells out) [.int .u8 (z : Nat)] (.slice (some ⟨wx.heap.size, 0, none⟩) 1 1) (by rfl) (by rfl) HY.out.row rfl HS.out (by omega) (by omega) ?_
                 intro A2 c2 w2 hrow2 honly2 hlies2
                 have hrow3 := hrow2
                 rw [← hz, bcells_snoc] at hrow3
                 have HF := Lib.hid (HY.out.append hby hrow3 rfl honly2 hlies2)
                 have HO2 := Lib.hid honly2
                 have i2 := HY.out.is.only honly2 HY.out.nd
                 have f2 := i2.frozen 2
                 have g2 := i2.cell 2 rfl
                 clear hrow2 honly2 hlies2 hrow3 i2)
    go_ret
    obtain ⟨f1, f2, f3⟩ := HF.out
    have hrd := HRX.out.only HOY.out fun f => f
    refine ⟨rfl, ?_, fun _ => ⟨A2, c2, ?_, hrd.only f2 ?_, fun j hj => (f3 j hj).imp id fun x => Nat.le_trans (HOX.out.trans HOY.out).size x⟩⟩
    · exact ((HOX.out.trans HOY.out).mono fun _ f => f.elim).trans (f2.mono fun j hj => .inr hj)
    · have e : (out ++ [y]).length = n + 1 := by rw [List.length_append, HX.out.len]; rfl
      rw [e]
      exact f1
    · rintro (e | e)
      · exact HX.out.ne e.symm
      · exact HX.out.nb e
end Go.Proofs.YtackcgiokkbhdaaDoor
