/- Layer 15, the laws: deeds that come in; what the program's calls answer. -/
import Derived.Test.YtaeaomlhbdbbfaaDoorTnJ
/- Layer 15, the laws: what the program's calls answer; deeds that come in. -/
namespace Go.Proofs.YtaeaomlhbdbbfaaDoor
open Go.RowKit

def dd0 : Dd := ⟨0, nd0⟩
/-- Deeds as cells, six each. -/
def dds : List Dd → List Value
  | [] => []
  | d :: r => .int .u8 d.k :: .string (tx d.n.path) :: .bool d.n.dir :: .string (tx d.n.data) :: .int .i64 d.n.mode :: .int .i64 d.n.time :: dds r
theorem dds_len : ∀ ds, (dds ds).length = ds.length * 6
  | [] => rfl
  | d :: r => by
    simp only [dds, List.length_cons, dds_len r]
    omega
theorem dds_at : ∀ (ds : List Dd) (i : Nat), i < ds.length → (dds ds)[i * 6]? = some (.int .u8 (ds.getD i dd0).k) ∧ (dds ds)[i * 6 + 1]? = some (.string (tx (ds.getD i dd0).n.path)) ∧ (dds ds)[i * 6 + 2]? = some (.bool (ds.getD i dd0).n.dir) ∧ (dds ds)[i * 6 + 3]? = some (.string (tx (ds.getD i dd0).n.data)) ∧ (dds ds)[i * 6 + 4]? = some (.int .i64 (ds.getD i dd0).n.mode) ∧ (dds ds)[i * 6 + 5]? = some (.int .i64 (ds.getD i dd0).n.time)
  | [], i, h => absurd h (Nat.not_lt_zero _)
  | d :: r, 0, _ => ⟨rfl, rfl, rfl, rfl, rfl, rfl⟩
  | d :: r, i + 1, h => by
    have ih := dds_at r i (by rw [List.length_cons] at h; omega)
    rw [show (i + 1) * 6 = i * 6 + 1 + 1 + 1 + 1 + 1 + 1 by omega]
    simp only [dds, List.getElem?_cons_succ, List.getD_cons_succ]
    exact ih
theorem see_dd {w : World} {B : Nat} {A : Option Addr} {ds : List Dd} (h : See w B A (dds ds)) {i : Nat} (hi : i < ds.length) : ∃ b o, A = some ⟨b, o, none⟩ ∧ w.cell? ⟨b, o + i * 6, none⟩ = some (.int .u8 (ds.getD i dd0).k) ∧ w.cell? ⟨b, o + i * 6 + 1, none⟩ = some (.string (tx (ds.getD i dd0).n.path)) ∧ w.cell? ⟨b, o + i * 6 + 2, none⟩ = some (.bool (ds.getD i dd0).n.dir) ∧ w.cell? ⟨b, o + i * 6 + 3, none⟩ = some (.string (tx (ds.getD i dd0).n.data)) ∧ w.cell? ⟨b, o + i * 6 + 4, none⟩ = some (.int .i64 (ds.getD i dd0).n.mode) ∧ w.cell? ⟨b, o + i * 6 + 5, none⟩ = some (.int .i64 (ds.getD i dd0).n.time) := by
  obtain ⟨h0, h1, h2, h3, h4, h5⟩ := dds_at ds i hi
  obtain ⟨b, o, rfl, _, d0⟩ := h _ _ h0
  have D : ∀ j v, (dds ds)[j]? = some v → w.cell? ⟨b, o + j, none⟩ = some v := fun j v hv => by
    obtain ⟨b2, o2, e2, _, d⟩ := h j v hv
    obtain ⟨rfl, rfl⟩ : b = b2 ∧ o = o2 := by simpa using e2
    exact d
  exact ⟨b, o, rfl, d0, D _ _ h1, D _ _ h2, D _ _ h3, D _ _ h4, D _ _ h5⟩
/-- Few, short deeds? -/
def shortD (d : Dd) : Bool := !(decide (60 < d.n.path.length) || decide (60 < d.n.data.length))
def smallT (ds : List Dd) (most : Nat) : Bool := !(decide (most < ds.length)) && ds.all shortD
theorem all_cut (f : Dd → Bool) (ds : List Dd) (i : Nat) (h : i < ds.length) : (ds.take (i + 1)).all f = ((ds.take i).all f && f (ds.getD i dd0)) := by
  rw [getD_take_snoc dd0 ds i h, List.all_append]
  simp
set_option maxHeartbeats 4000000 in
theorem rsmallD (A : Option Addr) (n c B : Nat) (ds : List Dd) (w : World) (h : See w B A (dds ds)) (hn : ds.length = n) (hb : n ≤ 9223372036854775807) : Calls Tryd.prog 14 #[.slice A n c, .int .i64 30] w fun e w' => e = .returned (.bool (smallT ds 30)) ∧ Only (fun _ => False) w w' := by
  have HS := Lib.hid h
  have HN := Lib.hid hn
  have HSM : Hid (smallT ds 30 = (!(decide (30 < n)) && ds.all shortD)) := Lib.hid (by rw [← hn]; rfl)
  clear h hn
  by_cases h30 : 30 < n
  · have l1 : (30 : Int) < (n : Int) := by omega
    have HA : Hid (smallT ds 30 = false) := Lib.hid (by rw [HSM.out, decide_eq_true h30]; rfl)
    go_enter Tryd.func14, Tryd.ntmps14
    go_wp2
    go_ret
    rw [HA.out]
    exact ⟨rfl, Only.refl _ w⟩
  have l1 : ¬ (30 : Int) < (n : Int) := by omega
  have HSM2 : Hid (smallT ds 30 = ds.all shortD) := Lib.hid (by rw [HSM.out, decide_eq_false h30]; rfl)
  clear HSM h30
  have HFALL : Hid (∀ i, i < n → shortD (ds.getD i dd0) = false → ds.all shortD = false) := Lib.hid fun i hi hf => by
    cases e : ds.all shortD with
    | false => rfl
    | true =>
      have hi2 : i < ds.length := by rw [HN.out]; exact hi
      have hm : ds.getD i dd0 ∈ ds := by
        rw [List.getD_eq_getElem?_getD, List.getElem?_eq_getElem hi2]
        exact List.getElem_mem hi2
      have := (List.all_eq_true.1 e) _ hm
      rw [hf] at this
      cases this
  have HST : Hid (∀ i, i < n → (ds.take (i + 1)).all shortD = ((ds.take i).all shortD && shortD (ds.getD i dd0))) := Lib.hid fun i hi => all_cut shortD ds i (by rw [HN.out]; exact hi)
  go_enter Tryd.func14, Tryd.ntmps14
  go_wp2_with fail
  go_loopg [13] n (fun gk u wx => ∃ i : Nat, u = .int .i64 i ∧ i + gk = n ∧ Hid (Only (fun _ => False) w wx) ∧ Hid ((ds.take i).all shortD = true))
  case atStart => exact ⟨0, rfl, by omega, Lib.hid (Only.refl _ w), Lib.hid rfl⟩
  case round =>
    obtain ⟨i, rfl, hi, HO, HL⟩ := hrel
    by_cases hlt : i < n
    · have l4 : (i : Int) < (n : Int) := by omega
      have hlt2 : i < ds.length := by rw [HN.out]; exact hlt
      obtain ⟨b, o, rfl, d0, d1, d2, d3, d4, d5⟩ := see_dd (HS.out.new HO.out) hlt2
      have HT := Lib.hid (HST.out i hlt)
      have HF := Lib.hid (HFALL.out i hlt)
      rw [HL.out, Bool.true_and] at HT
      have HD : Hid (shortD (ds.getD i dd0) = !(decide (60 < (ds.getD i dd0).n.path.length) || decide (60 < (ds.getD i dd0).n.data.length))) := Lib.hid rfl
      generalize shortD (ds.getD i dd0) = g at HT HF HD
      generalize ds.getD i dd0 = d at *
      obtain ⟨k, pa, di, da, mo, ti⟩ := d
      have z1 : (tx pa).size = pa.length := tx_size _
      have z2 : (tx da).size = da.length := tx_size _
      replace d0 : wr.cell? ⟨b, o + i * 6, none⟩ = some (.int .u8 k) := d0
      replace d1 : wr.cell? ⟨b, o + i * 6 + 1, none⟩ = some (.string (tx pa)) := d1
      replace d2 : wr.cell? ⟨b, o + i * 6 + 2, none⟩ = some (.bool di) := d2
      replace d3 : wr.cell? ⟨b, o + i * 6 + 3, none⟩ = some (.string (tx da)) := d3
      replace d4 : wr.cell? ⟨b, o + i * 6 + 4, none⟩ = some (.int .i64 mo) := d4
      replace d5 : wr.cell? ⟨b, o + i * 6 + 5, none⟩ = some (.int .i64 ti) := d5
      replace HD : Hid (g = !(decide (60 < pa.length) || decide (60 < da.length))) := Lib.hid HD.out
      clear hlt2
      generalize tx pa = P at *
      generalize tx da = D at *
      obtain ⟨np, hnp⟩ : ∃ np, pa.length = np := ⟨_, rfl⟩
      obtain ⟨nd, hnd⟩ : ∃ nd, da.length = nd := ⟨_, rfl⟩
      rw [hnp] at z1 HD
      rw [hnd] at z2 HD
      clear hnp hnd
      by_cases c1 : 60 < np
      · have k1 : (60 : Int) < (np : Int) := by omega
        have HG : Hid (g = false) := Lib.hid (by rw [HD.out, decide_eq_true c1]; rfl)
        clear c1 HD
        go_wp2
        go_ret
        rw [HSM2.out, HF.out HG.out]
        exact ⟨rfl, HO.out.alloc _⟩
      have k1 : ¬ (60 : Int) < (np : Int) := by omega
      by_cases c2 : 60 < nd
      · have k2 : (60 : Int) < (nd : Int) := by omega
        have HG : Hid (g = false) := Lib.hid (by rw [HD.out, decide_eq_false c1, decide_eq_true c2]; rfl)
        clear c1 c2 HD
        go_wp2
        go_ret
        rw [HSM2.out, HF.out HG.out]
        exact ⟨rfl, HO.out.alloc _⟩
      have k2 : ¬ (60 : Int) < (nd : Int) := by omega
      have HG : Hid (g = true) := Lib.hid (by rw [HD.out, decide_eq_false c1, decide_eq_false c2]; rfl)
      clear c1 c2 HD
      go_wp2_with fail
      go_roundg (gk - 1)
      case measure => omega
      case rel => exact ⟨i + 1, by go_num, by omega, Lib.hid (HO.out.alloc _), Lib.hid (by rw [HT.out, HG.out])⟩
    · obtain rfl : i = n := by omega
      have l4 : ¬ (i : Int) < (i : Int) := by omega
      have HE : Hid (ds.all shortD = true) := Lib.hid (by
        have := HL.out
        rw [List.take_of_length_le (by rw [HN.out]; exact Nat.le_refl _)] at this
        exact this)
      go_wp2
      go_ret
      rw [HSM2.out, HE.out]
      exact ⟨rfl, HO.out⟩
end Go.Proofs.YtaeaomlhbdbbfaaDoor

/- Layer 15, the laws: what the program's calls answer, over any tree of its own. -/
namespace Go.Proofs.YtaeaomlhbdbbfaaDoor
open Go.RowKit

/-- What a deed leaves: its answer, the tree as it then is, only its own blocks turned. -/
def DoT (T : Value → List Nd → (Nat → Prop) → World → Prop) (v : Value) (F : Nat → Prop) (w : World) (r : List Nd × Int) (e : Ending) (w' : World) : Prop := e = .returned (.int .i64 r.2) ∧ ∃ F', T v r.1 F' w' ∧ (∀ q, F' q → F q ∨ w.heap.size ≤ q) ∧ Only F w w'
/-- Nodes as they stand behind deeds. -/
def Few (ps : List Nd) : Prop := Form ps ∧ (∀ n ∈ ps, NdSm n) ∧ ps.length ≤ 2000
/-- The program's contracts: T v ps F w says that v is a tree of the nodes ps, in the blocks F. -/
structure TrC (G : World → Prop) (T : Value → List Nd → (Nat → Prop) → World → Prop) : Prop where
  keep : ∀ w w', G w → Only (fun _ => False) w w' → G w'
  stay : ∀ {v ps F w w'} {X : Nat → Prop}, T v ps F w → Only X w w' → (∀ q, F q → ¬ X q) → T v ps F w'
  low : ∀ {v ps F w}, T v ps F w → ∀ q, F q → q < w.heap.size
  new : ∀ w, G w → Calls Tryd.prog 15 #[] w fun e w' => ∃ v F, e = .returned v ∧ T v [] F w' ∧ (∀ q, F q → w.heap.size ≤ q) ∧ Only (fun _ => False) w w'
  put : ∀ {v ps F} (n : Nd) w, G w → T v ps F w → Few ps → NdSm n → Calls Tryd.prog 16 #[v, ndV n] w (DoT T v F w (doneT ps ⟨0, n⟩))
  ensure : ∀ {v ps F} (n : Nd) w, G w → T v ps F w → Few ps → NdSm n → Calls Tryd.prog 17 #[v, .string (tx n.path)] w (DoT T v F w (doneT ps ⟨2, n⟩))
  remove : ∀ {v ps F} (n : Nd) w, G w → T v ps F w → Few ps → NdSm n → Calls Tryd.prog 18 #[v, .string (tx n.path)] w (DoT T v F w (doneT ps ⟨3, n⟩))
  clear : ∀ {v ps F} (n : Nd) w, G w → T v ps F w → Few ps → NdSm n → Calls Tryd.prog 19 #[v, .string (tx n.path)] w (DoT T v F w (doneT ps ⟨4, n⟩))
  get : ∀ {v ps F} (p : List UInt8) w, G w → T v ps F w → Few ps → p.length ≤ 60 → Calls Tryd.prog 21 #[v, .string (tx p)] w fun e w' => e = .returned (.tuple #[ndV (gotT ps p).1, .bool (gotT ps p).2]) ∧ Only (fun _ => False) w w'
  list : ∀ {v ps F} (p : List UInt8) w, G w → T v ps F w → Few ps → p.length ≤ 60 → Calls Tryd.prog 22 #[v, .string (tx p)] w (SeeP w none (listT ps p))
  all : ∀ {v ps F} w, G w → T v ps F w → (∀ n ∈ ps, NdSm n) → ps.length ≤ 2000 → Calls Tryd.prog 13 #[v] w (SeeP w none ps)
  len : ∀ {v ps F} w, G w → T v ps F w → Few ps → Calls Tryd.prog 23 #[v] w fun e w' => e = .returned (.int .i64 ps.length) ∧ Only (fun _ => False) w w'
  bytes : ∀ {v ps F} w, G w → T v ps F w → Few ps → Calls Tryd.prog 24 #[v] w fun e w' => e = .returned (.int .i64 (bytesT ps)) ∧ Only (fun _ => False) w w'
  collision : ∀ {v ps F} w, G w → T v ps F w → Few ps → Calls Tryd.prog 20 #[v] w fun e w' => e = .returned (.tuple #[.string (tx (collA (collisionT ps)).1), .bool (collA (collisionT ps)).2]) ∧ Only (fun _ => False) w w'
  check : ∀ (A : Option Addr) (n c B : Nat) (ps : List Nd) w, G w → See w B A (nds ps) → ps.length = n → n ≤ c → n ≤ 2000 → (∀ n ∈ ps, NdSm n) → Calls Tryd.prog 11 #[.slice A n c] w fun e w' => e = .returned (.int .i64 (checkT ps)) ∧ Only (fun _ => False) w w'
  nput : ∀ (n : Nd) w, G w → Calls Tryd.prog 16 #[.pointer none, ndV n] w fun e w' => e = .returned (.int .i64 1) ∧ Only (fun _ => False) w w'
  nensure : ∀ (p : List UInt8) w, G w → Calls Tryd.prog 17 #[.pointer none, .string (tx p)] w fun e w' => e = .returned (.int .i64 1) ∧ Only (fun _ => False) w w'
  nremove : ∀ (p : List UInt8) w, G w → Calls Tryd.prog 18 #[.pointer none, .string (tx p)] w fun e w' => e = .returned (.int .i64 0) ∧ Only (fun _ => False) w w'
  nclear : ∀ (p : List UInt8) w, G w → Calls Tryd.prog 19 #[.pointer none, .string (tx p)] w fun e w' => e = .returned (.int .i64 0) ∧ Only (fun _ => False) w w'
  nget : ∀ (p : List UInt8) w, G w → Calls Tryd.prog 21 #[.pointer none, .string (tx p)] w fun e w' => e = .returned (.tuple #[ndV nd0, .bool false]) ∧ Only (fun _ => False) w w'
  nlist : ∀ (p : List UInt8) w, G w → Calls Tryd.prog 22 #[.pointer none, .string (tx p)] w fun e w' => (∃ A c, e = .returned (.slice A 0 c)) ∧ Only (fun _ => False) w w'
  nall : ∀ w, G w → Calls Tryd.prog 13 #[.pointer none] w fun e w' => (∃ A c, e = .returned (.slice A 0 c)) ∧ Only (fun _ => False) w w'
  nlen : ∀ w, G w → Calls Tryd.prog 23 #[.pointer none] w fun e w' => e = .returned (.int .i64 0) ∧ Only (fun _ => False) w w'
  nbytes : ∀ w, G w → Calls Tryd.prog 24 #[.pointer none] w fun e w' => e = .returned (.int .i64 0) ∧ Only (fun _ => False) w w'
  ncoll : ∀ w, G w → Calls Tryd.prog 20 #[.pointer none] w fun e w' => e = .returned (.tuple #[.string ⟨#[]⟩, .bool false]) ∧ Only (fun _ => False) w w'
/-- The contracts of what asks no tree: may a node be; the tree of nodes. -/
structure TrM (G : World → Prop) (T : Value → List Nd → (Nat → Prop) → World → Prop) : Prop where
  may : ∀ (n : Nd) w, G w → NdSm n → Calls Tryd.prog 8 #[ndV n] w fun e w' => e = .returned (.bool (mayPath n && mayRest n)) ∧ Only (fun _ => False) w w'
  of : ∀ (A : Option Addr) (n c B : Nat) (ps : List Nd) w, G w → See w B A (nds ps) → ps.length = n → n ≤ c → n ≤ 2000 → (∀ n ∈ ps, NdSm n) → Calls Tryd.prog 10 #[.slice A n c] w fun e w' => ∃ a, e = .returned (.tuple #[.pointer a, .int .i64 (checkT ps)]) ∧ (a = none ↔ checkT ps ≠ 0) ∧ (checkT ps = 0 → ∃ F, T (.pointer a) ps F w' ∧ ∀ q, F q → w.heap.size ≤ q) ∧ Only (fun _ => False) w w'
section
variable {G : World → Prop} {T : Value → List Nd → (Nat → Prop) → World → Prop}
/-- A tree of the call's own that holds the nodes ps, apart from X. -/
structure TAt (T : Value → List Nd → (Nat → Prop) → World → Prop) (w : World) (v : Value) (ps : List Nd) (X : Nat → Prop) (wx : World) : Prop where
  wf : ∃ F, T v ps F wx ∧ (∀ q, F q → w.heap.size ≤ q) ∧ ∀ q, X q → ¬ F q
  only : Only (fun _ => False) w wx
variable {w wx wy : World} {v : Value} {ps : List Nd} {X Y : Nat → Prop}
theorem TAt.fresh (C : TrC G T) (h : TAt T w v ps X wx) (k : Only X wx wy) (hw : ∀ q, X q → w.heap.size ≤ q) (hY : ∀ q, Y q → X q ∨ wx.heap.size ≤ q) : TAt T w v ps Y wy := by
  obtain ⟨⟨F, h1, h2, h3⟩, h4⟩ := h
  refine ⟨⟨F, C.stay h1 k fun q hq hx => h3 q hx hq, h2, fun q hq hf => ?_⟩, h4.andThen k fun q hq => .inr (hw q hq)⟩
  rcases hY q hq with e | e
  · exact h3 q e hf
  · have := C.low h1 q hf
    omega
theorem TAt.new (C : TrC G T) (h : TAt T w v ps X wx) (k : Only (fun _ => False) wx wy) : TAt T w v ps X wy := by
  obtain ⟨⟨F, h1, h2, h3⟩, h4⟩ := h
  exact ⟨⟨F, C.stay h1 k fun q _ f => f, h2, h3⟩, h4.trans k⟩
theorem TAt.add (C : TrC G T) (h : TAt T w v ps X wx) (k : Only (fun _ => False) wx wy) (hY : ∀ q, Y q → X q ∨ wx.heap.size ≤ q) : TAt T w v ps Y wy := by
  obtain ⟨⟨F, h1, h2, h3⟩, h4⟩ := h
  refine ⟨⟨F, C.stay h1 k fun q _ f => f, h2, fun q hq hf => ?_⟩, h4.trans k⟩
  rcases hY q hq with e | e
  · exact h3 q e hf
  · have := C.low h1 q hf
    omega
theorem TAt.less (h : TAt T w v ps X wx) (hY : ∀ q, Y q → X q) : TAt T w v ps Y wx := by
  obtain ⟨⟨F, h1, h2, h3⟩, h4⟩ := h
  exact ⟨⟨F, h1, h2, fun q hq => h3 q (hY q hq)⟩, h4⟩
/-- What a deed leaves, apart from X. -/
def TPut (T : Value → List Nd → (Nat → Prop) → World → Prop) (w : World) (v : Value) (r : List Nd × Int) (X : Nat → Prop) (wx : World) (e : Ending) (wy : World) : Prop := e = .returned (.int .i64 r.2) ∧ TAt T w v r.1 X wy ∧ Only (fun q => ¬ X q) wx wy
theorem TAt.put {F : Nat → Prop} {e : Ending} {r : List Nd × Int} (h4 : Only (fun _ => False) w wx) (h2 : ∀ q, F q → w.heap.size ≤ q) (h3 : ∀ q, X q → ¬ F q) (hX : ∀ q, X q → q < wx.heap.size) (k : DoT T v F wx r e wy) : TPut T w v r X wx e wy := by
  obtain ⟨rfl, F', k1, k3, k2⟩ := k
  refine ⟨rfl, ⟨⟨F', k1, fun q hq => ?_, fun q hq hf => ?_⟩, h4.andThen k2 fun q hq => .inr (h2 q hq)⟩, k2.mono fun q hq hx => h3 q hx hq⟩
  · rcases k3 q hq with e | e
    · exact h2 q e
    · exact Nat.le_trans h4.size e
  · rcases k3 q hf with e | e
    · exact h3 q hq e
    · have := hX q hq
      omega
theorem done_mod (ps : List Nd) (k : Nat) (n : Nd) : doneT ps ⟨k, n⟩ = doneT ps ⟨k % 5, n⟩ := by
  unfold doneT kindD
  rw [Nat.mod_mod]
theorem done_one (ps : List Nd) (n : Nd) : doneT ps ⟨1, n⟩ = doneT ps ⟨0, n⟩ := by
  unfold doneT kindD
  simp
theorem TAt.doPut (C : TrC G T) (h : TAt T w v ps X wx) (hg : G w) (hX : ∀ q, X q → q < wx.heap.size) (hf : Few ps) (n : Nd) (hn : NdSm n) : Calls Tryd.prog 16 #[v, ndV n] wx (TPut T w v (doneT ps ⟨0, n⟩) X wx) := by
  obtain ⟨⟨F, h1, h2, h3⟩, h4⟩ := h
  exact (C.put n wx (C.keep _ _ hg h4) h1 hf hn).mono fun e wy k => TAt.put h4 h2 h3 hX k
theorem TAt.doEnsure (C : TrC G T) (h : TAt T w v ps X wx) (hg : G w) (hX : ∀ q, X q → q < wx.heap.size) (hf : Few ps) (n : Nd) (hn : NdSm n) : Calls Tryd.prog 17 #[v, .string (tx n.path)] wx (TPut T w v (doneT ps ⟨2, n⟩) X wx) := by
  obtain ⟨⟨F, h1, h2, h3⟩, h4⟩ := h
  exact (C.ensure n wx (C.keep _ _ hg h4) h1 hf hn).mono fun e wy k => TAt.put h4 h2 h3 hX k
theorem TAt.doRemove (C : TrC G T) (h : TAt T w v ps X wx) (hg : G w) (hX : ∀ q, X q → q < wx.heap.size) (hf : Few ps) (n : Nd) (hn : NdSm n) : Calls Tryd.prog 18 #[v, .string (tx n.path)] wx (TPut T w v (doneT ps ⟨3, n⟩) X wx) := by
  obtain ⟨⟨F, h1, h2, h3⟩, h4⟩ := h
  exact (C.remove n wx (C.keep _ _ hg h4) h1 hf hn).mono fun e wy k => TAt.put h4 h2 h3 hX k
theorem TAt.doClear (C : TrC G T) (h : TAt T w v ps X wx) (hg : G w) (hX : ∀ q, X q → q < wx.heap.size) (hf : Few ps) (n : Nd) (hn : NdSm n) : Calls Tryd.prog 19 #[v, .string (tx n.path)] wx (TPut T w v (doneT ps ⟨4, n⟩) X wx) := by
  obtain ⟨⟨F, h1, h2, h3⟩, h4⟩ := h
  exact (C.clear n wx (C.keep _ _ hg h4) h1 hf hn).mono fun e wy k => TAt.put h4 h2 h3 hX k
theorem TAt.get (C : TrC G T) (h : TAt T w v ps X wx) (hg : G w) (hf : Few ps) (p : List UInt8) (hp : p.length ≤ 60) : Calls Tryd.prog 21 #[v, .string (tx p)] wx fun e w' => e = .returned (.tuple #[ndV (gotT ps p).1, .bool (gotT ps p).2]) ∧ Only (fun _ => False) wx w' := by
  obtain ⟨⟨F, h1, h2, h3⟩, h4⟩ := h
  exact C.get p wx (C.keep _ _ hg h4) h1 hf hp
theorem TAt.list (C : TrC G T) (h : TAt T w v ps X wx) (hg : G w) (hf : Few ps) (p : List UInt8) (hp : p.length ≤ 60) : Calls Tryd.prog 22 #[v, .string (tx p)] wx (SeeP wx none (listT ps p)) := by
  obtain ⟨⟨F, h1, h2, h3⟩, h4⟩ := h
  exact C.list p wx (C.keep _ _ hg h4) h1 hf hp
theorem TAt.all (C : TrC G T) (h : TAt T w v ps X wx) (hg : G w) (hs : ∀ n ∈ ps, NdSm n) (hl : ps.length ≤ 2000) : Calls Tryd.prog 13 #[v] wx (SeeP wx none ps) := by
  obtain ⟨⟨F, h1, h2, h3⟩, h4⟩ := h
  exact C.all wx (C.keep _ _ hg h4) h1 hs hl
theorem TAt.len (C : TrC G T) (h : TAt T w v ps X wx) (hg : G w) (hf : Few ps) : Calls Tryd.prog 23 #[v] wx fun e w' => e = .returned (.int .i64 ps.length) ∧ Only (fun _ => False) wx w' := by
  obtain ⟨⟨F, h1, h2, h3⟩, h4⟩ := h
  exact C.len wx (C.keep _ _ hg h4) h1 hf
theorem TAt.bytes (C : TrC G T) (h : TAt T w v ps X wx) (hg : G w) (hf : Few ps) : Calls Tryd.prog 24 #[v] wx fun e w' => e = .returned (.int .i64 (bytesT ps)) ∧ Only (fun _ => False) wx w' := by
  obtain ⟨⟨F, h1, h2, h3⟩, h4⟩ := h
  exact C.bytes wx (C.keep _ _ hg h4) h1 hf
theorem TAt.collision (C : TrC G T) (h : TAt T w v ps X wx) (hg : G w) (hf : Few ps) : Calls Tryd.prog 20 #[v] wx fun e w' => e = .returned (.tuple #[.string (tx (collA (collisionT ps)).1), .bool (collA (collisionT ps)).2]) ∧ Only (fun _ => False) wx w' := by
  obtain ⟨⟨F, h1, h2, h3⟩, h4⟩ := h
  exact C.collision wx (C.keep _ _ hg h4) h1 hf
theorem TAt.start (C : TrC G T) (w : World) (hg : G w) (wx : World) (o : Only (fun _ => False) w wx) : Calls Tryd.prog 15 #[] wx fun e w' => ∃ v, e = .returned v ∧ TAt T w v [] (fun _ => False) w' ∧ Only (fun _ => False) wx w' :=
  (C.new wx (C.keep _ _ hg o)).mono fun _ _ ⟨v, F, h1, h2, h3, h4⟩ => ⟨v, h1, ⟨⟨F, h2, fun q hq => Nat.le_trans o.size (h3 q hq), fun _ hq => hq.elim⟩, o.trans h4⟩, h4⟩
end
end Go.Proofs.YtaeaomlhbdbbfaaDoor
