/- Layer 8, the document: tokens, written by the plain code. -/
import Derived.Test.YtoclbodmibagpaaGreatDP
import Derived.Test.YtoclbodmibagpaaGreatRTree
import Derived.Test.YtoclbodmibagpaaGreatEnc
import Derived.Test.YtoclbodmibagpaaGreatTLaid
namespace Go.Proofs.YtoclbodmibagpaaGreat
open Go.RowKit

/-- A symbol's bits laid behind the writer's. -/
theorem wt_app {wx w6 : World} {b : Nat} {A : Option Addr} {n c g x : Nat} {l r : List UInt8} (h : Wt wx b A n c l) (hm : Made 5 wx.drew (some ⟨g, 0, none⟩) x x (bcells r) w6) (hl : r.length = x) (hn : n ≤ 1000000) (hx : x ≤ 100) :
    w6.cell? ⟨b, 0, none⟩ = some (.slice A n c) ∧ ∃ A9 c9 w9, (Builtin.append_ #[34, 34] 34 #[.slice A n c, .slice (some ⟨g, 0, none⟩) x x]).run Tryz.prog w6 = .ok (.slice A9 (n + x) c9) w9 ∧ Only (Lies A) w6 w9 ∧ w9.cell? ⟨b, 0, none⟩ = some (.slice A n c) ∧ w9.frozen? ⟨b, 0, none⟩ = false ∧
      Wt (w9.setCell ⟨b, 0, none⟩ (.slice A9 (n + x) c9)) b A9 (n + x) c9 (l ++ r) ∧ Only (fun j => j = b ∨ Lies A j) wx (w9.setCell ⟨b, 0, none⟩ (.slice A9 (n + x) c9)) ∧ ∀ j, Lies A9 j → Lies A j ∨ wx.heap.size ≤ j := by
  have o6 : Only (fun _ => False) wx w6 := ((Only.refl _ wx).drew).trans hm.2.1
  have h6 := h.new o6
  have hsrc : Src Tryz.prog 1 34 (.slice (some ⟨g, 0, none⟩) x x) x (bcells r) w6 := See.src (c := x) Tryz.underlying34 hm.1.see (by rw [bcells_length, hl]) (by simp [bcells, Value.oneCell'])
  obtain ⟨A9, c9, w9, hrun, r1, r2, r3⟩ := run_append_row (P := Tryz.prog) (ty := 40) Tryz.underlying34 info5 h6.row (r := bcells r) (m := x) (by rw [bcells_length, hl]) hsrc (by decide) (by omega)
  have hap : bcells l ++ bcells r = bcells (l ++ r) := by simp [bcells]
  rw [hap] at r1
  obtain ⟨f1, f2, f3, f4, f5⟩ := h6.append r1 hl r2 r3
  exact ⟨h6.is.cell 0 rfl, A9, c9, w9, hrun, r2, f4, f5, f1, (o6.mono fun _ f => f.elim).trans f2, fun j hj => (f3 j hj).imp id fun x => Nat.le_trans o6.size x⟩

/-- Where writing stands. -/
structure TAt (w : World) (b : Nat) (Aa Ab Ax Ay : Option Addr) (A : Option Addr) (n c : Nat) (l : List UInt8) (wx : World) : Prop where
  wt : Wt wx b A n c l
  only : Only (fun _ => False) w wx
  bn : w.heap.size ≤ b
  an : ∀ j, Lies A j → b < j
  sa : See wx b Aa (ints fixA)
  sb : See wx b Ab (ints fixB)
  sx : See wx b Ax (ints (cds fixA))
  sy : See wx b Ay (ints (cds fixB))
section
variable {w wx wy : World} {b : Nat} {Aa Ab Ax Ay A A2 : Option Addr} {n c n2 c2 : Nat} {l l2 : List UInt8}
theorem TAt.step (h : TAt w b Aa Ab Ax Ay A n c l wx) (hw : Wt wy b A2 n2 c2 l2) (ho : Only (fun j => j = b ∨ Lies A j) wx wy) (hl : ∀ j, Lies A2 j → Lies A j ∨ wx.heap.size ≤ j) : TAt w b Aa Ab Ax Ay A2 n2 c2 l2 wy := by
  have hbl := h.wt.is.lt
  have hk : Keep b wx wy := ho.mono fun j hj => hj.elim (fun e => Nat.le_of_eq e.symm) (fun e => Nat.le_of_lt (h.an j e))
  refine ⟨hw, h.only.andThen ho ?_, h.bn, fun j hj => (hl j hj).elim (h.an j) (fun x => by omega), h.sa.keep hk, h.sb.keep hk, h.sx.keep hk, h.sy.keep hk⟩
  have := h.bn
  rintro j (e | e)
  · exact .inr (by omega)
  · exact .inr (by have := h.an j e; omega)
theorem TAt.new (h : TAt w b Aa Ab Ax Ay A n c l wx) (k : Only (fun _ => False) wx wy) : TAt w b Aa Ab Ax Ay A n c l wy :=
  ⟨h.wt.new k, h.only.trans k, h.bn, h.an, h.sa.new k, h.sb.new k, h.sx.new k, h.sy.new k⟩
end

/-- What a token's numbers keep to. -/
theorem far_bounds {n k : Int} {y v m d v2 m2 : Nat} (hl : LenIs n (y : Nat) (v : Nat) (m : Nat) true) (hd : DistIs k (d : Nat) (v2 : Nat) (m2 : Nat) true) : 3 ≤ n ∧ y < 288 ∧ v ≤ 15 ∧ m < 32768 ∧ d < 32 ∧ v2 ≤ 15 ∧ m2 < 32768 := by
  generalize hy : ((y : Nat) : Int) = yi at hl
  generalize hv : ((v : Nat) : Int) = vi at hl
  generalize hm : ((m : Nat) : Int) = mi at hl
  generalize hy2 : ((d : Nat) : Int) = di at hd
  generalize hv2 : ((v2 : Nat) : Int) = vi2 at hd
  generalize hm2 : ((m2 : Nat) : Int) = mi2 at hd
  have k1 : 3 ≤ n ∧ y < 288 ∧ v ≤ 15 ∧ m < 32768 := by
    cases hl with
    | last => omega
    | row s m' hs' hm' hh =>
      have h0 : 3 ≤ lf s := by have := lf_mono 0 s; rw [Nat.zero_add] at this; exact this
      have h1 := lb15 s hs'
      have h2 : (2 : Nat) ^ lb s ≤ 2 ^ 15 := Nat.pow_le_pow_right (by decide) h1
      omega
  have k2 : d < 32 ∧ v2 ≤ 15 ∧ m2 < 32768 := by
    cases hd with
    | row s m' hs' hm' =>
      have h1 := db15 s hs'
      have h2 : (2 : Nat) ^ db s ≤ 2 ^ 15 := Nat.pow_le_pow_right (by decide) h1
      omega
  exact ⟨k1.1, k1.2.1, k1.2.2.1, k1.2.2.2, k2.1, k2.2.1, k2.2.2⟩

/-- The same, with a token beside. -/
structure TG (w : World) (b : Nat) (Aa Ab Ax Ay : Option Addr) (A : Option Addr) (n c : Nat) (l : List UInt8) (g : Nat) (cs : List Value) (wx : World) : Prop where
  at_ : TAt w b Aa Ab Ax Ay A n c l wx
  is : Is wx g 81 cs
  far : ¬ Lies A g
  gb : b < g
section
variable {w wx wy : World} {b g : Nat} {Aa Ab Ax Ay A A2 : Option Addr} {n c n2 c2 : Nat} {l l2 : List UInt8} {cs : List Value}
theorem TG.step (h : TG w b Aa Ab Ax Ay A n c l g cs wx) (hw : Wt wy b A2 n2 c2 l2) (ho : Only (fun j => j = b ∨ Lies A j) wx wy) (hl : ∀ j, Lies A2 j → Lies A j ∨ wx.heap.size ≤ j) : TG w b Aa Ab Ax Ay A2 n2 c2 l2 g cs wy := by
  have hlt := h.is.lt
  have hgb := h.gb
  refine ⟨h.at_.step hw ho hl, h.is.only ho ?_, fun hj => (hl g hj).elim h.far (fun x => by omega), h.gb⟩
  rintro (e | e)
  · omega
  · exact h.far e
theorem TG.new (h : TG w b Aa Ab Ax Ay A n c l g cs wx) (k : Only (fun _ => False) wx wy) : TG w b Aa Ab Ax Ay A n c l g cs wy := ⟨h.at_.new k, h.is.only k (fun f => f), h.far, h.gb⟩
theorem TAt.tok (h : TAt w b Aa Ab Ax Ay A n c l wx) (vs : List Value) : TG w b Aa Ab Ax Ay A n c l wx.heap.size vs (wx.alloc (.cells vs.toArray 81)) :=
  ⟨h.new ((Only.refl _ wx).alloc _), Is.new wx 81 vs, fun hj => Nat.lt_irrefl _ (h.wt.row.lies _ hj), h.wt.is.lt⟩
end
end Go.Proofs.YtoclbodmibagpaaGreat
