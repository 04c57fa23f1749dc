/- Layer 15, the document: what is there, what collides, what is left, what is put; rows of nodes. -/
import Derived.Test.YtaeaomlhbdbbfaaDoorTnM
import Derived.Test.YtaeaomlhbdbbfaaDoorRtA
import Derived.Test.YtaeaomlhbdbbfaaDoorFdR
import Derived.Laws.StructEq
import Derived.Deep.RegionHeld3
import Derived.Laws.ResultCell
/- Layer 15, the document: where a path is, directories, collisions, bytes, what is there, whether two rows are the same. -/
namespace Go.Proofs.YtaeaomlhbdbbfaaDoor
open Go.RowKit

/-- A row of nodes, read at a place. -/
theorem see_nd {w : World} {B : Nat} {A : Option Addr} {ps : List Nd} (h : See w B A (nds ps)) {i : Nat} (hi : i < ps.length) : ∃ b o, A = some ⟨b, o, none⟩ ∧ w.cell? ⟨b, o + i * 5, none⟩ = some (.string (tx (ps.getD i nd0).path)) ∧ w.cell? ⟨b, o + i * 5 + 1, none⟩ = some (.bool (ps.getD i nd0).dir) ∧ w.cell? ⟨b, o + i * 5 + 2, none⟩ = some (.string (tx (ps.getD i nd0).data)) ∧ w.cell? ⟨b, o + i * 5 + 3, none⟩ = some (.int .i64 (ps.getD i nd0).mode) ∧ w.cell? ⟨b, o + i * 5 + 4, none⟩ = some (.int .i64 (ps.getD i nd0).time) := by
  obtain ⟨h0, h1, h2, h3, h4⟩ := nds_at ps i hi
  obtain ⟨b, o, rfl, _, d0⟩ := h _ _ h0
  have D : ∀ j v, (nds ps)[j]? = some v → w.cell? ⟨b, o + j, none⟩ = some v := fun j v hv => by
    obtain ⟨b2, o2, e2, _, d⟩ := h j v hv
    obtain ⟨rfl, rfl⟩ : b = b2 ∧ o = o2 := by simpa using e2
    exact d
  exact ⟨b, o, rfl, d0, D _ _ h1, D _ _ h2, D _ _ h3, D _ _ h4⟩
theorem tx_eq (a b : List UInt8) : ((tx a).toList == (tx b).toList) = decide (a = b) := by
  rw [tx_toList, tx_toList]
  by_cases h : a = b
  · rw [decide_eq_true h, beq_iff_eq]; exact h
  · rw [decide_eq_false h, beq_eq_false_iff_ne]; exact h
theorem beq_dec (a b : List UInt8) : (a == b) = decide (a = b) := by
  by_cases h : a = b
  · rw [decide_eq_true h, beq_iff_eq]; exact h
  · rw [decide_eq_false h, beq_eq_false_iff_ne]; exact h
set_option maxHeartbeats 4000000 in
theorem rat (A : Option Addr) (n c B : Nat) (ps : List Nd) (p : List UInt8) (w : World) (h : See w B A (nds ps)) (hn : ps.length = n) (hb : n ≤ 1000000) : Calls Tryd.prog 46 #[.slice A n c, .string (tx p)] w fun e w' => e = .returned (.int .i64 (atZ (atG p ps))) ∧ w' = w := by
  have HS := Lib.hid h
  have HN := Lib.hid hn
  have tp := tx_toList p
  clear h hn
  go_enter Tryd.func46, Tryd.ntmps46
  go_wp2_with fail
  go_loopg [5] n (fun gk u wx => ∃ i : Nat, u = .int .i64 i ∧ i + gk = n ∧ wx = w ∧ Hid (∀ k, k < i → (ps.getD k nd0).path ≠ p))
  case atStart => exact ⟨0, rfl, by omega, rfl, Lib.hid fun k hk => absurd hk (Nat.not_lt_zero _)⟩
  case round =>
    obtain ⟨i, rfl, hi, rfl, HK⟩ := hrel
    by_cases hlt : i < n
    · have l4 : (i : Int) < (n : Int) := by omega
      obtain ⟨b, o, rfl, d0, _⟩ := see_nd HS.out (i := i) (by rw [HN.out]; exact hlt)
      have HT := Lib.hid (at_step p ps i (by rw [HN.out]; exact hlt) HK.out)
      have HK2 : Hid ((ps.getD i nd0).path ≠ p → ∀ k, k < i + 1 → (ps.getD k nd0).path ≠ p) := Lib.hid fun hne k hk => by
        by_cases e : k = i
        · rw [e]; exact hne
        · exact HK.out k (by omega)
      generalize (ps.getD i nd0).path = q at d0 HT HK2
      have tq := tx_toList q
      by_cases hq : q = p
      · have k1 : (q == p) = true := by rw [beq_iff_eq]; exact hq
        have HE := Lib.hid (HT.out hq)
        clear hq HT HK HK2
        go_wp2
        go_ret
        rw [HE.out]
        exact ⟨rfl, rfl⟩
      · have k1 : (q == p) = false := by rw [beq_eq_false_iff_ne]; exact hq
        have HE := Lib.hid (HK2.out hq)
        clear hq HT HK HK2
        go_wp2_with fail
        go_roundg (gk - 1)
        case measure => omega
        case rel => exact ⟨i + 1, by go_num, by omega, rfl, HE⟩
    · obtain rfl : i = n := by omega
      have l4 : ¬ (i : Int) < (i : Int) := by omega
      have HE : Hid (atG p ps = none) := Lib.hid (at_none p ps fun k hk => HK.out k (by rw [← HN.out]; exact hk))
      go_wp2
      go_ret
      rw [HE.out]
      exact ⟨rfl, rfl⟩
set_option maxHeartbeats 4000000 in
theorem risdir (A : Option Addr) (n c B : Nat) (ps : List Nd) (p : List UInt8) (w : World) (h : See w B A (nds ps)) (hn : ps.length = n) (hb : n ≤ 1000000) : Calls Tryd.prog 29 #[.slice A n c, .string (tx p)] w fun e w' => e = .returned (.bool (isDirT ps p)) ∧ w' = w := by
  have HA := Lib.hid (rat A n c B ps p w h hn hb)
  have HS := Lib.hid h
  have HN := Lib.hid hn
  have HL := Lib.hid (at_lt p ps)
  have HI : Hid (isDirT ps p = match atG p ps with
    | none => false
    | some k => (ps.getD k nd0).dir) := Lib.hid rfl
  clear h hn
  generalize atG p ps = r at HA HL HI
  go_enter Tryd.func29, Tryd.ntmps29
  go_wp2_with fail
  refine HA.out.mono ?_
  rintro e _ ⟨rfl, rfl⟩
  clear HA
  cases r with
  | none =>
    have e1 : atZ none = -1 := rfl
    go_wp2
    go_ret
    rw [HI.out]
    exact ⟨rfl, rfl⟩
  | some k =>
    obtain ⟨h1, _⟩ := HL.out k rfl
    obtain ⟨b, o, rfl, _, d1, _⟩ := see_nd HS.out h1
    have HI2 : Hid (isDirT ps p = (ps.getD k nd0).dir) := HI
    generalize (ps.getD k nd0).dir = D at d1 HI2
    rw [HN.out] at h1
    have e1 : atZ (some k) = (k : Int) := rfl
    have l1 : (0 : Int) ≤ (k : Int) := by omega
    have l2 : (k : Int) < (n : Int) := by omega
    rw [e1]
    clear HI HL e1
    go_wp2
    go_ret
    rw [HI2.out]
    exact ⟨rfl, rfl⟩
end Go.Proofs.YtaeaomlhbdbbfaaDoor

/- Layer 15, the document: collisions, bytes, what is there, whether two rows are the same. -/
namespace Go.Proofs.YtaeaomlhbdbbfaaDoor
open Go.RowKit

theorem coll_step (ps : List Nd) (p : List UInt8) (i : Nat) (h : i < ps.length) : collT (ps.take (i + 1)) p = (collT (ps.take i) p || (!(decide ((ps.getD i nd0).path = p)) && decide (foldF (ps.getD i nd0).path = foldF p))) := by
  unfold collT
  rw [getD_take_snoc nd0 ps i h, List.any_append]
  simp
theorem coll_hit (ps : List Nd) (p : List UInt8) (i : Nat) (h2 : collT (ps.take i) p = true) : collT ps p = true := by
  unfold collT at h2 ⊢
  rw [List.any_eq_true] at h2 ⊢
  obtain ⟨n, hn, h3⟩ := h2
  exact ⟨n, List.mem_of_mem_take hn, h3⟩
set_option maxHeartbeats 4000000 in
theorem rcollides (A : Option Addr) (n c B : Nat) (ps : List Nd) (p : List UInt8) (w : World) (h : See w B A (nds ps)) (hn : ps.length = n) (hin : NdsIn ps) (hp : p.length ≤ 2000) : Calls Tryd.prog 30 #[.slice A n c, .string (tx p)] w fun e w' => e = .returned (.bool (collT ps p)) ∧ Only (fun _ => False) w w' := by
  have HS := Lib.hid h
  have HN := Lib.hid hn
  have HIN := Lib.hid hin.2
  have hb := hin.1
  rw [hn] at hb
  have tp := tx_toList p
  have HF := Lib.hid (rfold p w (by omega))
  have HFA : Hid (∀ q w1, q.length ≤ 2000 → Calls Tryd.prog 47 #[.string (tx q)] w1 fun e w' => e = .returned (.string (tx (foldF q))) ∧ Only (fun _ => False) w1 w') := Lib.hid fun q w1 h => rfold q w1 (by omega)
  have HST := Lib.hid (coll_step ps p)
  have HHIT := Lib.hid (coll_hit ps p)
  clear h hn hin
  obtain ⟨f, hf⟩ : ∃ f, foldF p = f := ⟨_, rfl⟩
  rw [hf] at HF HST
  have tf := tx_toList f
  clear hf
  go_enter Tryd.func30, Tryd.ntmps30
  go_wp2_with fail
  refine HF.out.mono ?_
  rintro e w1 ⟨rfl, o1⟩
  have HO1 := Lib.hid o1
  clear o1 HF
  go_wp2_with fail
  go_loopg [6] n (fun gk u wx => ∃ i : Nat, u = .int .i64 i ∧ i + gk = n ∧ Hid (Only (fun _ => False) w wx) ∧ Hid (collT (ps.take i) p = false))
  case atStart => exact ⟨0, rfl, by omega, HO1, Lib.hid rfl⟩
  case round =>
    obtain ⟨i, rfl, hi, HO, HK⟩ := hrel
    by_cases hlt : i < n
    · have l4 : (i : Int) < (n : Int) := by omega
      have hlt2 : i < ps.length := by rw [HN.out]; exact hlt
      obtain ⟨b, o, rfl, d0, _⟩ := see_nd (HS.out.new HO.out) hlt2
      have HT := Lib.hid (HST.out i hlt2)
      have HY : Hid (collT (ps.take (i + 1)) p = true → collT ps p = true) := Lib.hid fun h => by
        rcases Nat.lt_or_ge (i + 1) ps.length with g | g
        · exact HHIT.out (i + 1) h
        · rw [List.take_of_length_le g] at h
          exact h
      have hq := (HIN.out _ (getD_mem nd0 ps i hlt2)).1
      clear hlt2
      generalize (ps.getD i nd0).path = q at d0 HT hq
      have tq := tx_toList q
      by_cases c1 : q = p
      · have k1 : (q == p) = true := by rw [beq_iff_eq]; exact c1
        have HE : Hid (collT (ps.take (i + 1)) p = false) := Lib.hid (by rw [HT.out, HK.out, decide_eq_true c1]; rfl)
        clear c1 HT HK HY hq
        go_wp2_with fail
        go_roundg (gk - 1)
        case measure => omega
        case rel => exact ⟨i + 1, by go_num, by omega, HO, HE⟩
      · have k1 : (q == p) = false := by rw [beq_eq_false_iff_ne]; exact c1
        have HQ := Lib.hid (HFA.out q wr hq)
        have HT2 : Hid (collT (ps.take (i + 1)) p = decide (foldF q = f)) := Lib.hid (by rw [HT.out, HK.out, decide_eq_false c1]; simp)
        generalize foldF q = fq at HQ HT2
        have tfq := tx_toList fq
        clear c1 HT HK hq
        by_cases c2 : fq = f
        · have k2 : (fq == f) = true := by rw [beq_iff_eq]; exact c2
          have HE := Lib.hid (HY.out (by rw [HT2.out, decide_eq_true c2]))
          clear c2 HT2 HY
          go_wp2_with fail
          refine HQ.out.mono ?_
          rintro e w2 ⟨rfl, o2⟩
          have HO2 := Lib.hid (HO.out.trans o2)
          clear o2 HQ
          go_wp2
          go_ret
          rw [HE.out]
          exact ⟨rfl, HO2.out⟩
        · have k2 : (fq == f) = false := by rw [beq_eq_false_iff_ne]; exact c2
          have HE : Hid (collT (ps.take (i + 1)) p = false) := Lib.hid (by rw [HT2.out, decide_eq_false c2])
          clear c2 HT2 HY
          go_wp2_with fail
          refine HQ.out.mono ?_
          rintro e w2 ⟨rfl, o2⟩
          have HO2 := Lib.hid (HO.out.trans o2)
          clear o2 HQ
          go_wp2_with fail
          go_roundg (gk - 1)
          case measure => omega
          case rel => exact ⟨i + 1, by go_num, by omega, HO2, HE⟩
    · obtain rfl : i = n := by omega
      have l4 : ¬ (i : Int) < (i : Int) := by omega
      have HE : Hid (collT ps p = false) := Lib.hid (by
        have := HK.out
        rw [List.take_of_length_le (by rw [HN.out]; exact Nat.le_refl _)] at this
        exact this)
      go_wp2
      go_ret
      rw [HE.out]
      exact ⟨rfl, HO.out⟩
theorem bytes_step (ps : List Nd) (i : Nat) (h : i < ps.length) : bytesT (ps.take (i + 1)) = bytesT (ps.take i) + (ps.getD i nd0).data.length := by
  rw [getD_take_snoc nd0 ps i h, bytes_app]
  rfl
theorem bytes_le (M : Nat) : ∀ ps : List Nd, (∀ n ∈ ps, n.data.length ≤ M) → bytesT ps ≤ ps.length * M
  | [], _ => by simp [bytesT]
  | n :: r, h => by
    have h1 := h n List.mem_cons_self
    have h2 := bytes_le M r fun m hm => h m (List.mem_cons_of_mem _ hm)
    rw [bytesT, List.length_cons, Nat.add_mul, Nat.one_mul]
    omega
set_option maxHeartbeats 4000000 in
theorem rbytes (A : Option Addr) (n c B : Nat) (ps : List Nd) (w : World) (h : See w B A (nds ps)) (hn : ps.length = n) (hin : NdsIn ps) : Calls Tryd.prog 31 #[.slice A n c] w fun e w' => e = .returned (.int .i64 (bytesT ps)) ∧ w' = w := by
  have HS := Lib.hid h
  have HN := Lib.hid hn
  have HIN := Lib.hid hin.2
  have hb := hin.1
  rw [hn] at hb
  have HB : Hid (∀ i, i ≤ n → bytesT (ps.take i) ≤ 100000000000) := Lib.hid fun i hi => by
    have h1 := bytes_le 1000000 (ps.take i) fun m hm => (HIN.out m (List.mem_of_mem_take hm)).2.1
    have h2 : (ps.take i).length ≤ 100000 := by rw [List.length_take]; omega
    have h3 := Nat.mul_le_mul_right 1000000 h2
    omega
  clear h hn hin
  go_enter Tryd.func31, Tryd.ntmps31
  go_wp2_with fail
  go_loopg [3, 4] n (fun gk u v wx => ∃ i s : Nat, u = .int .i64 s ∧ v = .int .i64 i ∧ i + gk = n ∧ wx = w ∧ s ≤ 100000000000 ∧ Hid (bytesT (ps.take i) = s))
  case atStart => exact ⟨0, 0, rfl, rfl, by omega, rfl, by omega, Lib.hid rfl⟩
  case round =>
    obtain ⟨i, s, rfl, rfl, hi, rfl, hs, HK⟩ := hrel
    by_cases hlt : i < n
    · have l4 : (i : Int) < (n : Int) := by omega
      have hlt2 : i < ps.length := by rw [HN.out]; exact hlt
      obtain ⟨b, o, rfl, _, _, d2, _⟩ := see_nd HS.out hlt2
      have hB := HB.out (i + 1) (by omega)
      have HT := Lib.hid (bytes_step ps i hlt2)
      rw [HT.out, HK.out] at hB
      rw [HK.out] at HT
      have hz : (tx (ps.getD i nd0).data).size = (ps.getD i nd0).data.length := tx_size _
      clear hlt2 HK
      generalize (ps.getD i nd0).data.length = m at HT hB hz
      generalize (ps.getD i nd0).data = q at d2 hz
      obtain ⟨s2, hs2⟩ : ∃ s2, s + m = s2 := ⟨_, rfl⟩
      have e2 : (s : Int) + (m : Int) = (s2 : Int) := by omega
      rw [hs2] at HT hB
      clear hs2
      go_wp2_with fail
      go_roundg (gk - 1)
      case measure => omega
      case rel => exact ⟨i + 1, s2, rfl, by go_num, by omega, rfl, hB, HT⟩
    · obtain rfl : i = n := by omega
      have l4 : ¬ (i : Int) < (i : Int) := by omega
      have HE : Hid (bytesT ps = s) := Lib.hid (by
        have := HK.out
        rw [List.take_of_length_le (by rw [HN.out]; exact Nat.le_refl _)] at this
        exact this)
      go_wp2
      go_ret
      rw [HE.out]
      exact ⟨rfl, rfl⟩
end Go.Proofs.YtaeaomlhbdbbfaaDoor

/- Layer 15, the document: what is there; rows of nodes of the call's own; what is left, what is put in its place, what lies in a directory. -/
namespace Go.Proofs.YtaeaomlhbdbbfaaDoor
open Go.RowKit

/-- A node as a value. -/
abbrev ndV (n : Nd) : Value := .agg #[.string (tx n.path), .bool n.dir, .string (tx n.data), .int .i64 n.mode, .int .i64 n.time]
theorem infoNd : (Tryd.prog.info? 25).map (fun i => (i.zero, i.size, i.bytes)) = some (some (.agg #[.string ByteArray.empty, .bool false, .string ByteArray.empty, .int .i64 0, .int .i64 0]), 5, 56) := by kernel_rfl
theorem zeroNd : (Value.agg #[.string ByteArray.empty, .bool false, .string ByteArray.empty, .int .i64 0, .int .i64 0]).cells.size = 5 := by simp [Value.cells]
theorem Src.oneNd (w : World) (n : Nd) (c : Nat) (t : TypeId) : Src Tryd.prog 5 22 (.slice (some ⟨w.heap.size, 0, none⟩) 1 c) 1 (ndVals n) (w.alloc (.cells #[.string (tx n.path), .bool n.dir, .string (tx n.data), .int .i64 n.mode, .int .i64 n.time] t)) := by
  refine Src.ofSlice _ Tryd.underlying22 _ 1 c _ rfl (fun j u hu => ?_) (by simp [ndVals, Value.oneCell'])
  have h := Is.new w t [.string (tx n.path), .bool n.dir, .string (tx n.data), .int .i64 n.mode, .int .i64 n.time]
  rw [Addr.add_lit, Nat.zero_add]
  exact h.cell j hu
/-- A row of nodes of the call's own, laid since w. -/
def NMade (w : World) (A : Option Addr) (n c : Nat) (ps : List Nd) (wx : World) : Prop := Rs 25 5 wx A n c (nds ps) ∧ Only (fun _ => False) w wx ∧ ∀ j, Lies A j → w.heap.size ≤ j
theorem NMade.nil (w : World) : NMade w none 0 0 [] w := ⟨Rs.nil _ 5 w, Only.refl _ w, by rintro j ⟨ad, e, _⟩; cases e⟩
theorem NMade.append {w wx wy : World} {A A' : Option Addr} {n c n' c' : Nat} {l l' : List Nd} {o : Obj} (h : NMade w A n c l wx) (hr : Rs 25 5 wy A' n' c' (nds l')) (ho : Only (Lies A) (wx.alloc o) wy) (ha : A' = A ∨ A' = some ⟨(wx.alloc o).heap.size, 0, none⟩) : NMade w A' n' c' l' wy := by
  refine ⟨hr, (h.2.1.alloc o).andThen ho fun j hj => .inr (h.2.2 j hj), fun j hj => ?_⟩
  rcases ha with e | e
  · exact h.2.2 j (e ▸ hj)
  · obtain ⟨ad, e1, e2⟩ := hj
    rw [e] at e1
    obtain rfl := Option.some.inj e1
    rw [← e2]
    exact (h.2.1.alloc o).size
theorem NMade.later {w wx wy : World} {A : Option Addr} {n c : Nat} {l : List Nd} (h : NMade w A n c l wx) (o : Only (fun _ => False) wx wy) : NMade w A n c l wy := ⟨h.1.only o fun _ _ f => f, h.2.1.trans o, h.2.2⟩
theorem NMade.from {w0 w wx : World} {A : Option Addr} {n c : Nat} {l : List Nd} (h : NMade w A n c l wx) (o : Only (fun _ => False) w0 w) : NMade w0 A n c l wx := ⟨h.1, o.trans h.2.1, fun j hj => Nat.le_trans o.size (h.2.2 j hj)⟩
/-- What is answered: nodes, in a row of its own or the one that came in. -/
def NdsP (w : World) (ps : List Nd) (e : Ending) (w' : World) : Prop := ∃ A c, e = .returned (.slice A ps.length c) ∧ NMade w A ps.length c ps w'
theorem drop_step (ps : List Nd) (p : List UInt8) (self : Bool) (i : Nat) (h : i < ps.length) : dropT (ps.take (i + 1)) p self = dropT (ps.take i) p self ++ if goes p self (ps.getD i nd0) = true then [] else [ps.getD i nd0] := by
  unfold dropT
  rw [getD_take_snoc nd0 ps i h, List.filter_append]
  congr 1
  rw [List.filter_cons]
  cases goes p self (ps.getD i nd0) <;> rfl
theorem drop_len (ps : List Nd) (p : List UInt8) (self : Bool) (i : Nat) : (dropT (ps.take i) p self).length ≤ i := by
  have h1 := List.length_filter_le (fun n => !(goes p self n)) (ps.take i)
  rw [List.length_take] at h1
  show (List.filter _ _).length ≤ i
  omega
end Go.Proofs.YtaeaomlhbdbbfaaDoor

/- Layer 15, the document: a node put in its place; what lies in a directory; what is there; the first that collides. -/
namespace Go.Proofs.YtaeaomlhbdbbfaaDoor
open Go.RowKit

theorem set_step (n : Nd) (ps : List Nd) (i : Nat) (h : i < ps.length) (done : Bool) : setG n (ps.drop i) done = (if decide (0 ≤ cmpF (partsF (ps.getD i nd0).path) (partsF n.path)) = true ∧ done = false then [n] else []) ++ ((if cmpF (partsF (ps.getD i nd0).path) (partsF n.path) = 0 then [] else [ps.getD i nd0]) ++ setG n (ps.drop (i + 1)) (done || decide (0 ≤ cmpF (partsF (ps.getD i nd0).path) (partsF n.path)))) := by
  rw [List.drop_eq_getElem_cons h, List.getD_eq_getElem?_getD, List.getElem?_eq_getElem h]
  rfl
theorem set_end (n : Nd) (done : Bool) : setG n [] done = if done = true then [] else [n] := rfl
/-- A node's five cells, at a place. -/
theorem nd_at {w : World} {B b o : Nat} {ps : List Nd} (h : See w B (some ⟨b, o, none⟩) (nds ps)) {i : Nat} (hi : i < ps.length) {q : Nd} (hq : ps.getD i nd0 = q) : w.cell? ⟨b, o + i * 5, none⟩ = some (.string (tx q.path)) ∧ w.cell? ⟨b, o + i * 5 + 1, none⟩ = some (.bool q.dir) ∧ w.cell? ⟨b, o + i * 5 + 2, none⟩ = some (.string (tx q.data)) ∧ w.cell? ⟨b, o + i * 5 + 3, none⟩ = some (.int .i64 q.mode) ∧ w.cell? ⟨b, o + i * 5 + 4, none⟩ = some (.int .i64 q.time) := by
  obtain ⟨b2, o2, e, h0, h1, h2, h3, h4⟩ := see_nd h hi
  obtain ⟨rfl, rfl⟩ : b = b2 ∧ o = o2 := by simpa using e
  rw [hq] at h0 h1 h2 h3 h4
  exact ⟨h0, h1, h2, h3, h4⟩
theorem lies_far {A : Option Addr} {X B : Nat} (h : ∀ j, Lies A j → B ≤ j) (hX : X < B) : ¬ Lies A X := fun f => by
  have := h X f
  omega
end Go.Proofs.YtaeaomlhbdbbfaaDoor

/- Layer 15, the document: what lies in a directory; what is there; the first that collides; two rows, the same or not. -/
namespace Go.Proofs.YtaeaomlhbdbbfaaDoor
open Go.RowKit

theorem list_step (ps : List Nd) (p : List UInt8) (i : Nat) (h : i < ps.length) : listT (ps.take (i + 1)) p = listT (ps.take i) p ++ if inDir p (ps.getD i nd0) = true then [ps.getD i nd0] else [] := by
  unfold listT
  rw [getD_take_snoc nd0 ps i h, List.filter_append]
  congr 1
  rw [List.filter_cons]
  split <;> rfl
theorem list_len (ps : List Nd) (p : List UInt8) (i : Nat) : (listT (ps.take i) p).length ≤ i := by
  have h1 := List.length_filter_le (inDir p) (ps.take i)
  rw [List.length_take] at h1
  show (List.filter _ _).length ≤ i
  omega
/-- What is answered of what is there. -/
def gotT (ps : List Nd) (p : List UInt8) : Nd × Bool := match atG p ps with
  | none => (nd0, false)
  | some k => (ps.getD k nd0, true)
theorem coll_head (done : List Nd) (n : Nd) (r : List Nd) : collG done (n :: r) = if collT done n.path = true then some n.path else collG (done ++ [n]) r := rfl
theorem coll_at (ps : List Nd) (i : Nat) (h : i < ps.length) : collG (ps.take i) (ps.drop i) = if collT (ps.take i) (ps.getD i nd0).path = true then some (ps.getD i nd0).path else collG (ps.take (i + 1)) (ps.drop (i + 1)) := by
  rw [List.drop_eq_getElem_cons h, coll_head, getD_take_snoc nd0 ps i h, List.getD_eq_getElem?_getD, List.getElem?_eq_getElem h]
  rfl
/-- What is answered of a collision. -/
def collA : Option (List UInt8) → List UInt8 × Bool
  | none => ([], false)
  | some p => (p, true)
theorem see_take {w : World} {B : Nat} {A : Option Addr} {ps : List Nd} (h : See w B A (nds ps)) (i : Nat) : See w B A (nds (ps.take i)) := fun j v hv => by
  refine h j v ?_
  have e : nds ps = nds (ps.take i) ++ nds (ps.drop i) := by rw [← nds_app, List.take_append_drop]
  rw [e]
  have hl : j < (nds (ps.take i)).length := by
    rcases Nat.lt_or_ge j (nds (ps.take i)).length with g | g
    · exact g
    · rw [List.getElem?_eq_none g] at hv
      cases hv
  rw [List.getElem?_append_left hl]
  exact hv
theorem nds_take {ps : List Nd} (h : NdsIn ps) (i : Nat) : NdsIn (ps.take i) := ⟨by
  have := h.1
  rw [List.length_take]
  omega, fun n hn => h.2 n (List.mem_of_mem_take hn)⟩
end Go.Proofs.YtaeaomlhbdbbfaaDoor

/- Layer 15, the document: a path's directories, a node put; two rows, the same or not. -/
namespace Go.Proofs.YtaeaomlhbdbbfaaDoor
open Go.RowKit

theorem setG_len (n : Nd) : ∀ (ps : List Nd) (dn : Bool), (setG n ps dn).length ≤ ps.length + (if dn = true then 0 else 1)
  | [], dn => by cases dn <;> simp [setG]
  | m :: r, dn => by
    have h1 := setG_len n r (dn || decide (0 ≤ cmpF (partsF m.path) (partsF n.path)))
    rw [setG, List.length_append, List.length_append, List.length_cons]
    have hA : (if cmpF (partsF m.path) (partsF n.path) = 0 then [] else [m]).length ≤ 1 := by split <;> simp
    cases dn with
    | true =>
      rw [Bool.true_or] at h1 ⊢
      rw [if_pos rfl] at h1
      rw [if_neg (fun h => by cases h.2)]
      show 0 + (_ + (setG n r true).length) ≤ r.length + 1 + 0
      omega
    | false =>
      rw [Bool.false_or] at h1 ⊢
      by_cases hc : decide (0 ≤ cmpF (partsF m.path) (partsF n.path)) = true
      · rw [hc, if_pos rfl] at h1
        rw [hc, if_pos ⟨rfl, rfl⟩]
        show 1 + (_ + (setG n r true).length) ≤ r.length + 1 + 1
        omega
      · rw [if_neg hc] at h1
        rw [if_neg (fun h => hc h.1)]
        show 0 + (_ + _) ≤ r.length + 1 + 1
        omega
theorem setG_mem (n x : Nd) : ∀ (ps : List Nd) (dn : Bool), x ∈ setG n ps dn → x = n ∨ x ∈ ps
  | [], dn, h => by
    unfold setG at h
    cases dn with
    | true => cases h
    | false => exact .inl (by simpa using h)
  | m :: r, dn, h => by
    rw [setG, List.mem_append, List.mem_append] at h
    rcases h with h | h | h
    · split at h
      · exact .inl (by simpa using h)
      · cases h
    · split at h
      · cases h
      · exact .inr (by simp at h; rw [h]; exact List.mem_cons_self)
    · rcases setG_mem n x r _ h with g | g
      · exact .inl g
      · exact .inr (List.mem_cons_of_mem _ g)
theorem set_len (ps : List Nd) (n : Nd) : (setT ps n).length ≤ ps.length + 1 := setG_len n ps false
theorem set_mem {ps : List Nd} {n x : Nd} (h : x ∈ setT ps n) : x = n ∨ x ∈ ps := setG_mem n x ps false h
theorem dropT_len (ps : List Nd) (p : List UInt8) (self : Bool) : (dropT ps p self).length ≤ ps.length := List.length_filter_le ..
theorem dropT_mem {ps : List Nd} {p : List UInt8} {self : Bool} {x : Nd} (h : x ∈ dropT ps p self) : x ∈ ps := (List.mem_filter.1 h).1
theorem dirNd_in {p : List UInt8} (h : p.length ≤ 2000) : NdIn (dirNd p) := ⟨h, Nat.zero_le _, by show (-9223372036854775808 : Int) ≤ 493; decide, by show (493 : Int) ≤ 9223372036854775807; decide, by show (-9223372036854775808 : Int) ≤ 0; decide, by show (0 : Int) ≤ 9223372036854775807; decide⟩
theorem parent_len (p : List UInt8) : (parentF p).1.length ≤ p.length := by
  cases h : (parentF p).2 with
  | true => exact Nat.le_of_lt (parent_lt p h)
  | false =>
    unfold parentF at h ⊢
    generalize lstF p p.length = r at h ⊢
    cases r with
    | none => exact Nat.zero_le _
    | some k => cases h
theorem head_no {ps : List Nd} {p : List UInt8} (h : (parentF p).2 = false) : headT ps p = ps := by
  unfold headT
  rw [h]
  rfl
theorem ensure_in (L : Nat) : ∀ (p : List UInt8) (ps : List Nd), p.length ≤ L → p.length ≤ 2000 → (∀ n ∈ ps, NdIn n) → (ensureT ps p).length ≤ ps.length + p.length + 1 ∧ ∀ n ∈ ensureT ps p, NdIn n := by
  induction L with
  | zero =>
    intro p ps h h2 hin
    have hp : (parentF p).2 = false := by
      cases e : (parentF p).2 with
      | false => rfl
      | true =>
        have := parent_lt p e
        omega
    rw [ensure_step, head_no hp]
    split
    · exact ⟨by omega, hin⟩
    · have h1 := set_len (dropT ps p true) (dirNd p)
      have h3 := dropT_len ps p true
      refine ⟨by omega, fun n hn => ?_⟩
      rcases set_mem hn with rfl | g
      · exact dirNd_in h2
      · exact hin n (dropT_mem g)
  | succ L ih =>
    intro p ps h h2 hin
    have hh : (headT ps p).length ≤ ps.length + p.length ∧ ∀ n ∈ headT ps p, NdIn n := by
      unfold headT
      by_cases hp : (parentF p).2 = true
      · have hl := parent_lt p hp
        rw [if_pos hp]
        obtain ⟨g1, g2⟩ := ih (parentF p).1 ps (by omega) (by omega) hin
        exact ⟨by omega, g2⟩
      · rw [if_neg hp]
        exact ⟨by omega, hin⟩
    rw [ensure_step]
    split
    · exact ⟨by omega, hh.2⟩
    · have h1 := set_len (dropT (headT ps p) p true) (dirNd p)
      have h3 := dropT_len (headT ps p) p true
      refine ⟨by omega, fun n hn => ?_⟩
      rcases set_mem hn with rfl | g
      · exact dirNd_in h2
      · exact hh.2 n (dropT_mem g)
theorem head_in (p : List UInt8) (ps : List Nd) (h2 : p.length ≤ 2000) (hin : ∀ n ∈ ps, NdIn n) : (headT ps p).length ≤ ps.length + p.length + 1 ∧ ∀ n ∈ headT ps p, NdIn n := by
  unfold headT
  by_cases hp : (parentF p).2 = true
  · have hl := parent_lt p hp
    rw [if_pos hp]
    obtain ⟨g1, g2⟩ := ensure_in _ (parentF p).1 ps (Nat.le_refl _) (by omega) hin
    exact ⟨by omega, g2⟩
  · rw [if_neg hp]
    exact ⟨by omega, hin⟩
/-- Nodes in a row that is the call's own, or the one that came in. -/
def SeeP (w : World) (A0 : Option Addr) (ps : List Nd) (e : Ending) (w' : World) : Prop := ∃ A c B, e = .returned (.slice A ps.length c) ∧ See w' B A (nds ps) ∧ ps.length ≤ c ∧ Only (fun _ => False) w w' ∧ ∀ j, Lies A j → Lies A0 j ∨ (w.heap.size ≤ j ∧ j < w'.heap.size)
theorem rs_cap {e : TypeId} {sz : Nat} {w : World} {A : Option Addr} {n c : Nat} {vs : List Value} (h : Rs e sz w A n c vs) : n ≤ c := by
  obtain ⟨_, ⟨_, h1, h2, _⟩ | ⟨_, _, _, _, h3, _⟩⟩ := h
  · omega
  · exact h3
theorem rs_lies {e : TypeId} {sz : Nat} {w : World} {A : Option Addr} {n c : Nat} {vs : List Value} (h : Rs e sz w A n c vs) : ∀ j, Lies A j → j < w.heap.size := by
  obtain ⟨_, ⟨rfl, _⟩ | ⟨g, cur, rfl, h5, _⟩⟩ := h
  · rintro j ⟨_, e, _⟩
    cases e
  · rintro j ⟨ad, e, rfl⟩
    obtain rfl := Option.some.inj e
    exact block_lt h5
theorem NdsP.see {w : World} {A0 : Option Addr} {ps : List Nd} {e : Ending} {w' : World} (h : NdsP w ps e w') : SeeP w A0 ps e w' := by
  obtain ⟨A, c, rfl, h1, h2, h3⟩ := h
  exact ⟨A, c, _, rfl, h1.see, rs_cap h1, h2, fun j hj => .inr ⟨h3 j hj, rs_lies h1 j hj⟩⟩
theorem SeeP.from {w0 w : World} {A0 A1 : Option Addr} {ps : List Nd} {e : Ending} {w' : World} (h : SeeP w A1 ps e w') (o : Only (fun _ => False) w0 w) (hl : ∀ j, Lies A1 j → Lies A0 j ∨ (w0.heap.size ≤ j ∧ j < w.heap.size)) : SeeP w0 A0 ps e w' := by
  obtain ⟨A, c, B, rfl, h1, h2, h3, h4⟩ := h
  refine ⟨A, c, B, rfl, h1, h2, o.trans h3, fun j hj => ?_⟩
  rcases h4 j hj with g | g
  · exact (hl j g).imp id fun g => ⟨g.1, Nat.lt_of_lt_of_le g.2 h3.size⟩
  · exact .inr ⟨Nat.le_trans o.size g.1, g.2⟩
end Go.Proofs.YtaeaomlhbdbbfaaDoor
