/- Layer 15, the document: what is there, what collides, what is left, what is put; rows of nodes. -/
import Derived.Test.YtaeaomlhbdbbfaaGreatDoorTnM
import Derived.Test.YtaeaomlhbdbbfaaGreatDoorRtA
import Derived.Test.YtaeaomlhbdbbfaaGreatDoorFdR
import Derived.Laws.StructEq
import Derived.Deep.RegionHeld3
import Derived.Laws.ResultCell
/- Layer 15, the document: where a path is, directories, collisions, bytes, what is there, whether two rows are the same. -/
namespace Go.Proofs.YtaeaomlhbdbbfaaGreatDoor
open Go.RowKit

/-- A row of nodes, read at a place. -/
theorem see_nd {w : World} {B : Nat} {A : Option Addr} {ps : List Nd} (h : See w B A (nds ps)) {i : Nat} (hi : i < ps.length) : ∃ b o, A = some ⟨b, o, none⟩ ∧ w.cell? ⟨b, o + i * 5, none⟩ = some (.string (tx (ps.getD i nd0).path)) ∧ w.cell? ⟨b, o + i * 5 + 1, none⟩ = some (.bool (ps.getD i nd0).dir) ∧ w.cell? ⟨b, o + i * 5 + 2, none⟩ = some (.string (tx (ps.getD i nd0).data)) ∧ w.cell? ⟨b, o + i * 5 + 3, none⟩ = some (.int .i64 (ps.getD i nd0).mode) ∧ w.cell? ⟨b, o + i * 5 + 4, none⟩ = some (.int .i64 (ps.getD i nd0).time) := by
  obtain ⟨h0, h1, h2, h3, h4⟩ := nds_at ps i hi
  obtain ⟨b, o, rfl, _, d0⟩ := h _ _ h0
  have D : ∀ j v, (nds ps)[j]? = some v → w.cell? ⟨b, o + j, none⟩ = some v := fun j v hv => by
    obtain ⟨b2, o2, e2, _, d⟩ := h j v hv
    obtain ⟨rfl, rfl⟩ : b = b2 ∧ o = o2 := by simpa using e2
    exact d
  exact ⟨b, o, rfl, d0, D _ _ h1, D _ _ h2, D _ _ h3, D _ _ h4⟩
theorem tx_eq (a b : List UInt8) : ((tx a).toList == (tx b).toList) = decide (a = b) := by
  rw [tx_toList, tx_toList]
  by_cases h : a = b
  · rw [decide_eq_true h, beq_iff_eq]; exact h
  · rw [decide_eq_false h, beq_eq_false_iff_ne]; exact h
theorem beq_dec (a b : List UInt8) : (a == b) = decide (a = b) := by
  by_cases h : a = b
  · rw [decide_eq_true h, beq_iff_eq]; exact h
  · rw [decide_eq_false h, beq_eq_false_iff_ne]; exact h
set_option maxHeartbeats 4000000 in
theorem rat (A : Option Addr) (n c B : Nat) (ps : List Nd) (p : List UInt8) (w : World) (h : See w B A (nds ps)) (hn : ps.length = n) (hb : n ≤ 1000000) : Calls Tryz.prog 40 #[.slice A n c, .string (tx p)] w fun e w' => e = .returned (.int .i64 (atZ (atG p ps))) ∧ w' = w := by
  have HS := Lib.hid h
  have HN := Lib.hid hn
  have tp := tx_toList p
  clear h hn
  go_enter Tryz.func40, Tryz.ntmps40
  go_wp2_with fail
  go_loopg [5] n (fun gk u wx => ∃ i : Nat, u = .int .i64 i ∧ i + gk = n ∧ wx = w ∧ Hid (∀ k, k < i → (ps.getD k nd0).path ≠ p))
  case atStart => exact ⟨0, rfl, by omega, rfl, Lib.hid fun k hk => absurd hk (Nat.not_lt_zero _)⟩
  case round =>
    obtain ⟨i, rfl, hi, rfl, HK⟩ := hrel
    by_cases hlt : i < n
    · have l4 : (i : Int) < (n : Int) := by omega
      obtain ⟨b, o, rfl, d0, _⟩ := see_nd HS.out (i := i) (by rw [HN.out]; exact hlt)
      have HT := Lib.hid (at_step p ps i (by rw [HN.out]; exact hlt) HK.out)
      have HK2 : Hid ((ps.getD i nd0).path ≠ p → ∀ k, k < i + 1 → (ps.getD k nd0).path ≠ p) := Lib.hid fun hne k hk => by
        by_cases e : k = i
        · rw [e]; exact hne
        · exact HK.out k (by omega)
      generalize (ps.getD i nd0).path = q at d0 HT HK2
      have tq := tx_toList q
      by_cases hq : q = p
      · have k1 : (q == p) = true := by rw [beq_iff_eq]; exact hq
        have HE := Lib.hid (HT.out hq)
        clear hq HT HK HK2
        go_wp2
        go_ret
        rw [HE.out]
        exact ⟨rfl, rfl⟩
      · have k1 : (q == p) = false := by rw [beq_eq_false_iff_ne]; exact hq
        have HE := Lib.hid (HK2.out hq)
        clear hq HT HK HK2
        go_wp2_with fail
        go_roundg (gk - 1)
        case measure => omega
        case rel => exact ⟨i + 1, by go_num, by omega, rfl, HE⟩
    · obtain rfl : i = n := by omega
      have l4 : ¬ (i : Int) < (i : Int) := by omega
      have HE : Hid (atG p ps = none) := Lib.hid (at_none p ps fun k hk => HK.out k (by rw [← HN.out]; exact hk))
      go_wp2
      go_ret
      rw [HE.out]
      exact ⟨rfl, rfl⟩
set_option maxHeartbeats 4000000 in
theorem risdir (A : Option Addr) (n c B : Nat) (ps : List Nd) (p : List UInt8) (w : World) (h : See w B A (nds ps)) (hn : ps.length = n) (hb : n ≤ 1000000) : Calls Tryz.prog 57 #[.slice A n c, .string (tx p)] w fun e w' => e = .returned (.bool (isDirT ps p)) ∧ w' = w := by
  have HA := Lib.hid (rat A n c B ps p w h hn hb)
  have HS := Lib.hid h
  have HN := Lib.hid hn
  have HL := Lib.hid (at_lt p ps)
  have HI : Hid (isDirT ps p = match atG p ps with
    | none => false
    | some k => (ps.getD k nd0).dir) := Lib.hid rfl
  clear h hn
  generalize atG p ps = r at HA HL HI
  go_enter Tryz.func57, Tryz.ntmps57
  go_wp2_with fail
  refine HA.out.mono ?_
  rintro e _ ⟨rfl, rfl⟩
  clear HA
  cases r with
  | none =>
    have e1 : atZ none = -1 := rfl
    go_wp2
    go_ret
    rw [HI.out]
    exact ⟨rfl, rfl⟩
  | some k =>
    obtain ⟨h1, _⟩ := HL.out k rfl
    obtain ⟨b, o, rfl, _, d1, _⟩ := see_nd HS.out h1
    have HI2 : Hid (isDirT ps p = (ps.getD k nd0).dir) := HI
    generalize (ps.getD k nd0).dir = D at d1 HI2
    rw [HN.out] at h1
    have e1 : atZ (some k) = (k : Int) := rfl
    have l1 : (0 : Int) ≤ (k : Int) := by omega
    have l2 : (k : Int) < (n : Int) := by omega
    rw [e1]
    clear HI HL e1
    go_wp2
    go_ret
    rw [HI2.out]
    exact ⟨rfl, rfl⟩
end Go.Proofs.YtaeaomlhbdbbfaaGreatDoor

/- Layer 15, the document: collisions, bytes, what is there, whether two rows are the same. -/
namespace Go.Proofs.YtaeaomlhbdbbfaaGreatDoor
open Go.RowKit

theorem coll_step (ps : List Nd) (p : List UInt8) (i : Nat) (h : i < ps.length) : collT (ps.take (i + 1)) p = (collT (ps.take i) p || (!(decide ((ps.getD i nd0).path = p)) && decide (foldF (ps.getD i nd0).path = foldF p))) := by
  unfold collT
  rw [getD_take_snoc nd0 ps i h, List.any_append]
  simp
theorem coll_hit (ps : List Nd) (p : List UInt8) (i : Nat) (h2 : collT (ps.take i) p = true) : collT ps p = true := by
  unfold collT at h2 ⊢
  rw [List.any_eq_true] at h2 ⊢
  obtain ⟨n, hn, h3⟩ := h2
  exact ⟨n, List.mem_of_mem_take hn, h3⟩
set_option maxHeartbeats 4000000 in
theorem rcollides (A : Option Addr) (n c B : Nat) (ps : List Nd) (p : List UInt8) (w : World) (h : See w B A (nds ps)) (hn : ps.length = n) (hin : NdsIn ps) (hp : p.length ≤ 2000) : Calls Tryz.prog 42 #[.slice A n c, .string (tx p)] w fun e w' => e = .returned (.bool (collT ps p)) ∧ Only (fun _ => False) w w' := by
  have HS := Lib.hid h
  have HN := Lib.hid hn
  have HIN := Lib.hid hin.2
  have hb := hin.1
  rw [hn] at hb
  have tp := tx_toList p
  have HF := Lib.hid (rfold p w (by omega))
  have HFA : Hid (∀ q w1, q.length ≤ 2000 → Calls Tryz.prog 60 #[.string (tx q)] w1 fun e w' => e = .returned (.string (tx (foldF q))) ∧ Only (fun _ => False) w1 w') := Lib.hid fun q w1 h => rfold q w1 (by omega)
  have HST := Lib.hid (coll_step ps p)
  have HHIT := Lib.hid (coll_hit ps p)
  clear h hn hin
  obtain ⟨f, hf⟩ : ∃ f, foldF p = f := ⟨_, rfl⟩
  rw [hf] at HF HST
  have tf := tx_toList f
  clear hf
  go_enter Tryz.func42, Tryz.ntmps42
  go_wp2_with fail
  refine HF.out.mono ?_
  rintro e w1 ⟨rfl, o1⟩
  have HO1 := Lib.hid o1
  clear o1 HF
  go_wp2_with fail
  go_loopg [6] n (fun gk u wx => ∃ i : Nat, u = .int .i64 i ∧ i + gk = n ∧ Hid (Only (fun _ => False) w wx) ∧ Hid (collT (ps.take i) p = false))
  case atStart => exact ⟨0, rfl, by omega, HO1, Lib.hid rfl⟩
  case round =>
    obtain ⟨i, rfl, hi, HO, HK⟩ := hrel
    by_cases hlt : i < n
    · have l4 : (i : Int) < (n : Int) := by omega
      have hlt2 : i < ps.length := by rw [HN.out]; exact hlt
      obtain ⟨b, o, rfl, d0, _⟩ := see_nd (HS.out.new HO.out) hlt2
      have HT := Lib.hid (HST.out i hlt2)
      have HY : Hid (collT (ps.take (i + 1)) p = true → collT ps p = true) := Lib.hid fun h => by
        rcases Nat.lt_or_ge (i + 1) ps.length with g | g
        · exact HHIT.out (i + 1) h
        · rw [List.take_of_length_le g] at h
          exact h
      have hq := (HIN.out _ (getD_mem nd0 ps i hlt2)).1
      clear hlt2
      generalize (ps.getD i nd0).path = q at d0 HT hq
      have tq := tx_toList q
      by_cases c1 : q = p
      · have k1 : (q == p) = true := by rw [beq_iff_eq]; exact c1
        have HE : Hid (collT (ps.take (i + 1)) p = false) := Lib.hid (by rw [HT.out, HK.out, decide_eq_true c1]; rfl)
        clear c1 HT HK HY hq
        go_wp2_with fail
        go_roundg (gk - 1)
        case measure => omega
        case rel => exact ⟨i + 1, by go_num, by omega, HO, HE⟩
      · have k1 : (q == p) = false := by rw [beq_eq_false_iff_ne]; exact c1
        have HQ := Lib.hid (HFA.out q wr hq)
        have HT2 : Hid (collT (ps.take (i + 1)) p = decide (foldF q = f)) := Lib.hid (by rw [HT.out, HK.out, decide_eq_false c1]; simp)
        generalize foldF q = fq at HQ HT2
        have tfq := tx_toList fq
        clear c1 HT HK hq
        by_cases c2 : fq = f
        · have k2 : (fq == f) = true := by rw [beq_iff_eq]; exact c2
          have HE := Lib.hid (HY.out (by rw [HT2.out, decide_eq_true c2]))
          clear c2 HT2 HY
          go_wp2_with fail
          refine HQ.out.mono ?_
          rintro e w2 ⟨rfl, o2⟩
          have HO2 := Lib.hid (HO.out.trans o2)
          clear o2 HQ
          go_wp2
          go_ret
          rw [HE.out]
          exact ⟨rfl, HO2.out⟩
        · have k2 : (fq == f) = false := by rw [beq_eq_false_iff_ne]; exact c2
          have HE : Hid (collT (ps.take (i + 1)) p = false) := Lib.hid (by rw [HT2.out, decide_eq_false c2])
          clear c2 HT2 HY
          go_wp2_with fail
          refine HQ.out.mono ?_
          rintro e w2 ⟨rfl, o2⟩
          have HO2 := Lib.hid (HO.out.trans o2)
          clear o2 HQ
          go_wp2_with fail
          go_roundg (gk - 1)
          case measure => omega
          case rel => exact ⟨i + 1, by go_num, by omega, HO2, HE⟩
    · obtain rfl : i = n := by omega
      have l4 : ¬ (i : Int) < (i : Int) := by omega
      have HE : Hid (collT ps p = false) := Lib.hid (by
        have := HK.out
        rw [List.take_of_length_le (by rw [HN.out]; exact Nat.le_refl _)] at this
        exact this)
      go_wp2
      go_ret
      rw [HE.out]
      exact ⟨rfl, HO.out⟩
theorem bytes_step (ps : List Nd) (i : Nat) (h : i < ps.length) : bytesT (ps.take (i + 1)) = bytesT (ps.take i) + (ps.getD i nd0).data.length := by
  rw [getD_take_snoc nd0 ps i h, bytes_app]
  rfl
theorem bytes_le (M : Nat) : ∀ ps : List Nd, (∀ n ∈ ps, n.data.length ≤ M) → bytesT ps ≤ ps.length * M
  | [], _ => by simp [bytesT]
  | n :: r, h => by
    have h1 := h n List.mem_cons_self
    have h2 := bytes_le M r fun m hm => h m (List.mem_cons_of_mem _ hm)
    rw [bytesT, List.length_cons, Nat.add_mul, Nat.one_mul]
    omega
set_option maxHeartbeats 4000000 in
theorem rbytes (A : Option Addr) (n c B : Nat) (ps : List Nd) (w : World) (h : See w B A (nds ps)) (hn : ps.length = n) (hin : NdsIn ps) : Calls Tryz.prog 16 #[.slice A n c] w fun e w' => e = .returned (.int .i64 (bytesT ps)) ∧ w' = w := by
  have HS := Lib.hid h
  have HN := Lib.hid hn
  have HIN := Lib.hid hin.2
  have hb := hin.1
  rw [hn] at hb
  have HB : Hid (∀ i, i ≤ n → bytesT (ps.take i) ≤ 100000000000) := Lib.hid fun i hi => by
    have h1 := bytes_le 1000000 (ps.take i) fun m hm => (HIN.out m (List.mem_of_mem_take hm)).2.1
    have h2 : (ps.take i).length ≤ 100000 := by rw [List.length_take]; omega
    have h3 := Nat.mul_le_mul_right 1000000 h2
    omega
  clear h hn hin
  go_enter Tryz.func16, Tryz.ntmps16
  go_wp2_with fail
  go_loopg [3, 4] n (fun gk u v wx => ∃ i s : Nat, u = .int .i64 s ∧ v = .int .i64 i ∧ i + gk = n ∧ wx = w ∧ s ≤ 100000000000 ∧ Hid (bytesT (ps.take i) = s))
  case atStart => exact ⟨0, 0, rfl, rfl, by omega, rfl, by omega, Lib.hid rfl⟩
  case round =>
    obtain ⟨i, s, rfl, rfl, hi, rfl, hs, HK⟩ := hrel
    by_cases hlt : i < n
    · have l4 : (i : Int) < (n : Int) := by omega
      have hlt2 : i < ps.length := by rw [HN.out]; exact hlt
      obtain ⟨b, o, rfl, _, _, d2, _⟩ := see_nd HS.out hlt2
      have hB := HB.out (i + 1) (by omega)
      have HT := Lib.hid (bytes_step ps i hlt2)
      rw [HT.out, HK.out] at hB
      rw [HK.out] at HT
      have hz : (tx (ps.getD i nd0).data).size = (ps.getD i nd0).data.length := tx_size _
      clear hlt2 HK
      generalize (ps.getD i nd0).data.length = m at HT hB hz
      generalize (ps.getD i nd0).data = q at d2 hz
      obtain ⟨s2, hs2⟩ : ∃ s2, s + m = s2 := ⟨_, rfl⟩
      have e2 : (s : Int) + (m : Int) = (s2 : Int) := by omega
      rw [hs2] at HT hB
      clear hs2
      go_wp2_with fail
      go_roundg (gk - 1)
      case measure => omega
      case rel => exact ⟨i + 1, s2, rfl, by go_num, by omega, rfl, hB, HT⟩
    · obtain rfl : i = n := by omega
      have l4 : ¬ (i : Int) < (i : Int) := by omega
      have HE : Hid (bytesT ps = s) := Lib.hid (by
        have := HK.out
        rw [List.take_of_length_le (by rw [HN.out]; exact Nat.le_refl _)] at this
        exact this)
      go_wp2
      go_ret
      rw [HE.out]
      exact ⟨rfl, rfl⟩
end Go.Proofs.YtaeaomlhbdbbfaaGreatDoor

/- Layer 15, the document: what is there; rows of nodes of the call's own; what is left, what is put in its place, what lies in a directory. -/
namespace Go.Proofs.YtaeaomlhbdbbfaaGreatDoor
open Go.RowKit

/-- A node as a value. -/
abbrev ndV (n : Nd) : Value := .agg #[.string (tx n.path), .bool n.dir, .string (tx n.data), .int .i64 n.mode, .int .i64 n.time]
theorem infoNd : (Tryz.prog.info? 29).map (fun i => (i.zero, i.size, i.bytes)) = some (some (.agg #[.string ByteArray.empty, .bool false, .string ByteArray.empty, .int .i64 0, .int .i64 0]), 5, 56) := by kernel_rfl
theorem zeroNd : (Value.agg #[.string ByteArray.empty, .bool false, .string ByteArray.empty, .int .i64 0, .int .i64 0]).cells.size = 5 := by simp [Value.cells]
theorem Src.oneNd (w : World) (n : Nd) (c : Nat) (t : TypeId) : Src Tryz.prog 5 27 (.slice (some ⟨w.heap.size, 0, none⟩) 1 c) 1 (ndVals n) (w.alloc (.cells #[.string (tx n.path), .bool n.dir, .string (tx n.data), .int .i64 n.mode, .int .i64 n.time] t)) := by
  refine Src.ofSlice _ Tryz.underlying27 _ 1 c _ rfl (fun j u hu => ?_) (by simp [ndVals, Value.oneCell'])
  have h := Is.new w t [.string (tx n.path), .bool n.dir, .string (tx n.data), .int .i64 n.mode, .int .i64 n.time]
  rw [Addr.add_lit, Nat.zero_add]
  exact h.cell j hu
/-- A row of nodes of the call's own, laid since w. -/
def NMade (w : World) (A : Option Addr) (n c : Nat) (ps : List Nd) (wx : World) : Prop := Rs 29 5 wx A n c (nds ps) ∧ Only (fun _ => False) w wx ∧ ∀ j, Lies A j → w.heap.size ≤ j
theorem NMade.nil (w : World) : NMade w none 0 0 [] w := ⟨Rs.nil _ 5 w, Only.refl _ w, by rintro j ⟨ad, e, _⟩; cases e⟩
theorem NMade.append {w wx wy : World} {A A' : Option Addr} {n c n' c' : Nat} {l l' : List Nd} {o : Obj} (h : NMade w A n c l wx) (hr : Rs 29 5 wy A' n' c' (nds l')) (ho : Only (Lies A) (wx.alloc o) wy) (ha : A' = A ∨ A' = some ⟨(wx.alloc o).heap.size, 0, none⟩) : NMade w A' n' c' l' wy := by
  refine ⟨hr, (h.2.1.alloc o).andThen ho fun j hj => .inr (h.2.2 j hj), fun j hj => ?_⟩
  rcases ha with e | e
  · exact h.2.2 j (e ▸ hj)
  · obtain ⟨ad, e1, e2⟩ := hj
    rw [e] at e1
    obtain rfl := Option.some.inj e1
    rw [← e2]
    exact (h.2.1.alloc o).size
theorem NMade.later {w wx wy : World} {A : Option Addr} {n c : Nat} {l : List Nd} (h : NMade w A n c l wx) (o : Only (fun _ => False) wx wy) : NMade w A n c l wy := ⟨h.1.only o fun _ _ f => f, h.2.1.trans o, h.2.2⟩
theorem NMade.from {w0 w wx : World} {A : Option Addr} {n c : Nat} {l : List Nd} (h : NMade w A n c l wx) (o : Only (fun _ => False) w0 w) : NMade w0 A n c l wx := ⟨h.1, o.trans h.2.1, fun j hj => Nat.le_trans o.size (h.2.2 j hj)⟩
/-- What is answered: nodes, in a row of its own or the one that came in. -/
def NdsP (w : World) (ps : List Nd) (e : Ending) (w' : World) : Prop := ∃ A c, e = .returned (.slice A ps.length c) ∧ NMade w A ps.length c ps w'
theorem drop_step (ps : List Nd) (p : List UInt8) (self : Bool) (i : Nat) (h : i < ps.length) : dropT (ps.take (i + 1)) p self = dropT (ps.take i) p self ++ if goes p self (ps.getD i nd0) = true then [] else [ps.getD i nd0] := by
  unfold dropT
  rw [getD_take_snoc nd0 ps i h, List.filter_append]
  congr 1
  rw [List.filter_cons]
  cases goes p self (ps.getD i nd0) <;> rfl
theorem drop_len (ps : List Nd) (p : List UInt8) (self : Bool) (i : Nat) : (dropT (ps.take i) p self).length ≤ i := by
  have h1 := List.length_filter_le (fun n => !(goes p self n)) (ps.take i)
  rw [List.length_take] at h1
  show (List.filter _ _).length ≤ i
  omega
set_option maxRecDepth 20000 in
set_option maxHeartbeats 8000000 in
theorem rdrop (A : Option Addr) (n c B : Nat) (ps : List Nd) (p : List UInt8) (self : Bool) (w : World) (h : See w B A (nds ps)) (hn : ps.length = n) (hin : NdsIn ps) (hp : p.length ≤ 2000) : Calls Tryz.prog 37 #[.slice A n c, .string (tx p), .bool self] w (NdsP w (dropT ps p self)) := by
  have HS := Lib.hid h
  have HN := Lib.hid hn
  have HIN := Lib.hid hin.2
  have hb := hin.1
  rw [hn] at hb
  have tp := tx_toList p
  have HST := Lib.hid (drop_step ps p self)
  have HU : Hid (∀ (q : List UInt8) (w1 : World), q.length ≤ 2000 → Calls Tryz.prog 58 #[.string (tx q), .string (tx p)] w1 fun e w' => e = .returned (.bool (underF (partsF q) (partsF p))) ∧ Only (fun _ => False) w1 w') := Lib.hid fun q w1 h => runder q p w1 (by omega) (by omega)
  clear h hn hin
  go_enter Tryz.func37, Tryz.ntmps37
  go_wp2_with fail
  go_loopg [7, 8] n (fun gk u v wx => ∃ (i : Nat) (A1 : Option Addr) (c1 : Nat), u = .slice A1 (dropT (ps.take i) p self).length c1 ∧ v = .int .i64 i ∧ i + gk = n ∧ Hid (NMade w A1 (dropT (ps.take i) p self).length c1 (dropT (ps.take i) p self) wx))
  case atStart => exact ⟨0, none, 0, rfl, rfl, by omega, Lib.hid (NMade.nil w)⟩
  case round =>
    obtain ⟨i, A1, c1, rfl, rfl, hi, HM⟩ := hrel
    have hfl := drop_len ps p self i
    by_cases hlt : i < n
    · have l4 : (i : Int) < (n : Int) := by omega
      have hlt2 : i < ps.length := by rw [HN.out]; exact hlt
      obtain ⟨b, o, rfl, d0, d1, d2, d3, d4⟩ := see_nd (HS.out.new HM.out.2.1) hlt2
      have HT := Lib.hid (HST.out i hlt2)
      have hq := (HIN.out _ (getD_mem nd0 ps i hlt2)).1
      have HUQ := Lib.hid (HU.out _ wr hq)
      clear hlt2 hq
      generalize ps.getD i nd0 = q at d0 d1 d2 d3 d4 HT HUQ
      generalize dropT (ps.take i) p self = done at HM HT hfl ⊢
      obtain ⟨m, hm⟩ : ∃ m, done.length = m := ⟨_, rfl⟩
      rw [hm] at HM hfl ⊢
      have tq := tx_toList q.path
      have HG : Hid (goes p self q = ((decide (q.path = p) && self) || ((!(decide (p = [])) && underF (partsF q.path) (partsF p)) || (decide (p = []) && !self)))) := Lib.hid rfl
      obtain ⟨g, hg⟩ : ∃ g, goes p self q = g := ⟨_, rfl⟩
      rw [hg] at HG HT
      clear hg
      generalize underF (partsF q.path) (partsF p) = U at HUQ HG
      by_cases c1 : q.path = p
      · have k1 : (q.path == p) = true := by rw [beq_iff_eq]; exact c1
        rw [decide_eq_true c1, Bool.true_and] at HG
        clear c1
        cases self with
        | true =>
          have HF : Hid (dropT (ps.take (i + 1)) p true = done) := Lib.hid (by rw [HT.out, HG.out, if_pos (by rfl), List.append_nil])
          clear HT HG HUQ
          go_wp2_with fail
          go_roundg (gk - 1)
          case measure => omega
          case rel =>
            refine ⟨i + 1, A1, c1, ?_, by go_num, by omega, ?_⟩
            · rw [HF.out, hm]
            · rw [HF.out, hm]
              exact HM
        | false =>
          have HG2 : Hid (g = ((!(decide (p = [])) && U) || (decide (p = []) && !false))) := Lib.hid (by rw [HG.out, Bool.false_or])
          clear HG
          by_cases c2 : p = []
          · have k2 : p.isEmpty = true := by rw [c2]; rfl
            have HG3 : Hid (g = true) := Lib.hid (by rw [HG2.out, decide_eq_true c2]; simp)
            clear c2 HG2 HUQ
            have HF : Hid (dropT (ps.take (i + 1)) p false = done) := Lib.hid (by rw [HT.out, HG3.out, if_pos rfl, List.append_nil])
            clear HT HG3
            go_wp2_with fail
            go_roundg (gk - 1)
            case measure => omega
            case rel =>
              refine ⟨i + 1, A1, c1, ?_, by go_num, by omega, ?_⟩
              · rw [HF.out, hm]
              · rw [HF.out, hm]
                exact HM
          · have k2 : p.isEmpty = false := by rw [List.isEmpty_eq_false_iff]; exact c2
            have HG3 : Hid (g = U) := Lib.hid (by rw [HG2.out, decide_eq_false c2]; simp)
            clear c2 HG2
            go_wp2_with fail
            refine HUQ.out.mono ?_
            rintro e w2 ⟨rfl, o2⟩
            have HMB := Lib.hid (HM.out.later o2)
            have g0 := only_cell d0 o2
            have g1 := only_cell d1 o2
            have g2 := only_cell d2 o2
            have g3 := only_cell d3 o2
            have g4 := only_cell d4 o2
            clear o2 HUQ
            cases U with
            | true =>
              have HF : Hid (dropT (ps.take (i + 1)) p false = done) := Lib.hid (by rw [HT.out, HG3.out, if_pos rfl, List.append_nil])
              clear HT HG3
              go_wp2_with fail
              go_roundg (gk - 1)
              case measure => omega
              case rel =>
                refine ⟨i + 1, A1, c1, ?_, by go_num, by omega, ?_⟩
                · rw [HF.out, hm]
                · rw [HF.out, hm]
                  exact HMB
            | false =>
              have HF : Hid (dropT (ps.take (i + 1)) p false = done ++ [q]) := Lib.hid (by rw [HT.out, HG3.out, if_neg (by decide)])
              clear HT HG3
              go_wp2_with (at_builtin
                           refine wpList_append_rs rfl (.tmp 46) (.tmp 51) 27 27 29 rfl Tryz.underlying27 infoNd zeroNd A1 m c1 (nds done) (ndVals q) (.slice (some ⟨w2.heap.size, 0, none⟩) 1 1) (by rfl) (by rfl) (HMB.out.1.alloc _) (Src.oneNd w2 q 1 29) (by omega) (by omega) ?_
                           intro A2 c2 w3 hrow2 honly2 hlies2
                           have HM2 : Hid (NMade w A2 (m + 1) c2 (done ++ [q]) w3) := Lib.hid (HMB.out.append (by rw [← nds_snoc]; exact hrow2) honly2 hlies2)
                           clear hrow2 honly2 hlies2)
              go_roundg (gk - 1)
              case measure => omega
              case rel =>
                have e : (done ++ [q]).length = m + 1 := by rw [List.length_append, hm]; rfl
                refine ⟨i + 1, A2, c2, ?_, by go_num, by omega, ?_⟩
                · rw [HF.out, e]
                · rw [HF.out, e]
                  exact HM2
      · have k1 : (q.path == p) = false := by rw [beq_eq_false_iff_ne]; exact c1
        rw [decide_eq_false c1, Bool.false_and, Bool.false_or] at HG
        clear c1
        cases self with
        | true =>
          have HG2 := HG
          clear HG
          by_cases c2 : p = []
          · have k2 : p.isEmpty = true := by rw [c2]; rfl
            have HG3 : Hid (g = false) := Lib.hid (by rw [HG2.out, decide_eq_true c2]; simp)
            clear c2 HG2 HUQ
            have HF : Hid (dropT (ps.take (i + 1)) p true = done ++ [q]) := Lib.hid (by rw [HT.out, HG3.out, if_neg (by decide)])
            clear HT HG3
            go_wp2_with (at_builtin
                         refine wpList_append_rs rfl (.tmp 46) (.tmp 51) 27 27 29 rfl Tryz.underlying27 infoNd zeroNd A1 m c1 (nds done) (ndVals q) (.slice (some ⟨wr.heap.size, 0, none⟩) 1 1) (by rfl) (by rfl) (HM.out.1.alloc _) (Src.oneNd wr q 1 29) (by omega) (by omega) ?_
                         intro A2 c2 w3 hrow2 honly2 hlies2
                         have HM2 : Hid (NMade w A2 (m + 1) c2 (done ++ [q]) w3) := Lib.hid (HM.out.append (by rw [← nds_snoc]; exact hrow2) honly2 hlies2)
                         clear hrow2 honly2 hlies2)
            go_roundg (gk - 1)
            case measure => omega
            case rel =>
              have e : (done ++ [q]).length = m + 1 := by rw [List.length_append, hm]; rfl
              refine ⟨i + 1, A2, c2, ?_, by go_num, by omega, ?_⟩
              · rw [HF.out, e]
              · rw [HF.out, e]
                exact HM2
          · have k2 : p.isEmpty = false := by rw [List.isEmpty_eq_false_iff]; exact c2
            have HG3 : Hid (g = U) := Lib.hid (by rw [HG2.out, decide_eq_false c2]; simp)
            clear c2 HG2
            go_wp2_with fail
            refine HUQ.out.mono ?_
            rintro e w2 ⟨rfl, o2⟩
            have HMB := Lib.hid (HM.out.later o2)
            have g0 := only_cell d0 o2
            have g1 := only_cell d1 o2
            have g2 := only_cell d2 o2
            have g3 := only_cell d3 o2
            have g4 := only_cell d4 o2
            clear o2 HUQ
            cases U with
            | true =>
              have HF : Hid (dropT (ps.take (i + 1)) p true = done) := Lib.hid (by rw [HT.out, HG3.out, if_pos rfl, List.append_nil])
              clear HT HG3
              go_wp2_with fail
              go_roundg (gk - 1)
              case measure => omega
              case rel =>
                refine ⟨i + 1, A1, c1, ?_, by go_num, by omega, ?_⟩
                · rw [HF.out, hm]
                · rw [HF.out, hm]
                  exact HMB
            | false =>
              have HF : Hid (dropT (ps.take (i + 1)) p true = done ++ [q]) := Lib.hid (by rw [HT.out, HG3.out, if_neg (by decide)])
              clear HT HG3
              go_wp2_with (at_builtin
                           refine wpList_append_rs rfl (.tmp 46) (.tmp 51) 27 27 29 rfl Tryz.underlying27 infoNd zeroNd A1 m c1 (nds done) (ndVals q) (.slice (some ⟨w2.heap.size, 0, none⟩) 1 1) (by rfl) (by rfl) (HMB.out.1.alloc _) (Src.oneNd w2 q 1 29) (by omega) (by omega) ?_
                           intro A2 c2 w3 hrow2 honly2 hlies2
                           have HM2 : Hid (NMade w A2 (m + 1) c2 (done ++ [q]) w3) := Lib.hid (HMB.out.append (by rw [← nds_snoc]; exact hrow2) honly2 hlies2)
                           clear hrow2 honly2 hlies2)
              go_roundg (gk - 1)
              case measure => omega
              case rel =>
                have e : (done ++ [q]).length = m + 1 := by rw [List.length_append, hm]; rfl
                refine ⟨i + 1, A2, c2, ?_, by go_num, by omega, ?_⟩
                · rw [HF.out, e]
                · rw [HF.out, e]
                  exact HM2
        | false =>
          have HG2 := HG
          clear HG
          by_cases c2 : p = []
          · have k2 : p.isEmpty = true := by rw [c2]; rfl
            have HG3 : Hid (g = true) := Lib.hid (by rw [HG2.out, decide_eq_true c2]; simp)
            clear c2 HG2 HUQ
            have HF : Hid (dropT (ps.take (i + 1)) p false = done) := Lib.hid (by rw [HT.out, HG3.out, if_pos rfl, List.append_nil])
            clear HT HG3
            go_wp2_with fail
            go_roundg (gk - 1)
            case measure => omega
            case rel =>
              refine ⟨i + 1, A1, c1, ?_, by go_num, by omega, ?_⟩
              · rw [HF.out, hm]
              · rw [HF.out, hm]
                exact HM
          · have k2 : p.isEmpty = false := by rw [List.isEmpty_eq_false_iff]; exact c2
            have HG3 : Hid (g = U) := Lib.hid (by rw [HG2.out, decide_eq_false c2]; simp)
            clear c2 HG2
            go_wp2_with fail
            refine HUQ.out.mono ?_
            rintro e w2 ⟨rfl, o2⟩
            have HMB := Lib.hid (HM.out.later o2)
            have g0 := only_cell d0 o2
            have g1 := only_cell d1 o2
            have g2 := only_cell d2 o2
            have g3 := only_cell d3 o2
            have g4 := only_cell d4 o2
            clear o2 HUQ
            cases U with
            | true =>
              have HF : Hid (dropT (ps.take (i + 1)) p false = done) := Lib.hid (by rw [HT.out, HG3.out, if_pos rfl, List.append_nil])
              clear HT HG3
              go_wp2_with fail
              go_roundg (gk - 1)
              case measure => omega
              case rel =>
                refine ⟨i + 1, A1, c1, ?_, by go_num, by omega, ?_⟩
                · rw [HF.out, hm]
                · rw [HF.out, hm]
                  exact HMB
            | false =>
              have HF : Hid (dropT (ps.take (i + 1)) p false = done ++ [q]) := Lib.hid (by rw [HT.out, HG3.out, if_neg (by decide)])
              clear HT HG3
              go_wp2_with (at_builtin
                           refine wpList_append_rs rfl (.tmp 46) (.tmp 51) 27 27 29 rfl Tryz.underlying27 infoNd zeroNd A1 m c1 (nds done) (ndVals q) (.slice (some ⟨w2.heap.size, 0, none⟩) 1 1) (by rfl) (by rfl) (HMB.out.1.alloc _) (Src.oneNd w2 q 1 29) (by omega) (by omega) ?_
                           intro A2 c2 w3 hrow2 honly2 hlies2
                           have HM2 : Hid (NMade w A2 (m + 1) c2 (done ++ [q]) w3) := Lib.hid (HMB.out.append (by rw [← nds_snoc]; exact hrow2) honly2 hlies2)
                           clear hrow2 honly2 hlies2)
              go_roundg (gk - 1)
              case measure => omega
              case rel =>
                have e : (done ++ [q]).length = m + 1 := by rw [List.length_append, hm]; rfl
                refine ⟨i + 1, A2, c2, ?_, by go_num, by omega, ?_⟩
                · rw [HF.out, e]
                · rw [HF.out, e]
                  exact HM2
    · obtain rfl : i = n := by omega
      have l4 : ¬ (i : Int) < (i : Int) := by omega
      have ht : ps.take i = ps := List.take_of_length_le (by rw [HN.out]; exact Nat.le_refl _)
      rw [ht] at HM hfl ⊢
      go_wp2
      go_ret
      exact ⟨A1, c1, rfl, HM.out⟩
end Go.Proofs.YtaeaomlhbdbbfaaGreatDoor

/- Layer 15, the document: a node put in its place; what lies in a directory; what is there; the first that collides. -/
namespace Go.Proofs.YtaeaomlhbdbbfaaGreatDoor
open Go.RowKit

theorem set_step (n : Nd) (ps : List Nd) (i : Nat) (h : i < ps.length) (done : Bool) : setG n (ps.drop i) done = (if decide (0 ≤ cmpF (partsF (ps.getD i nd0).path) (partsF n.path)) = true ∧ done = false then [n] else []) ++ ((if cmpF (partsF (ps.getD i nd0).path) (partsF n.path) = 0 then [] else [ps.getD i nd0]) ++ setG n (ps.drop (i + 1)) (done || decide (0 ≤ cmpF (partsF (ps.getD i nd0).path) (partsF n.path)))) := by
  rw [List.drop_eq_getElem_cons h, List.getD_eq_getElem?_getD, List.getElem?_eq_getElem h]
  rfl
theorem set_end (n : Nd) (done : Bool) : setG n [] done = if done = true then [] else [n] := rfl
/-- A node's five cells, at a place. -/
theorem nd_at {w : World} {B b o : Nat} {ps : List Nd} (h : See w B (some ⟨b, o, none⟩) (nds ps)) {i : Nat} (hi : i < ps.length) {q : Nd} (hq : ps.getD i nd0 = q) : w.cell? ⟨b, o + i * 5, none⟩ = some (.string (tx q.path)) ∧ w.cell? ⟨b, o + i * 5 + 1, none⟩ = some (.bool q.dir) ∧ w.cell? ⟨b, o + i * 5 + 2, none⟩ = some (.string (tx q.data)) ∧ w.cell? ⟨b, o + i * 5 + 3, none⟩ = some (.int .i64 q.mode) ∧ w.cell? ⟨b, o + i * 5 + 4, none⟩ = some (.int .i64 q.time) := by
  obtain ⟨b2, o2, e, h0, h1, h2, h3, h4⟩ := see_nd h hi
  obtain ⟨rfl, rfl⟩ : b = b2 ∧ o = o2 := by simpa using e
  rw [hq] at h0 h1 h2 h3 h4
  exact ⟨h0, h1, h2, h3, h4⟩
theorem lies_far {A : Option Addr} {X B : Nat} (h : ∀ j, Lies A j → B ≤ j) (hX : X < B) : ¬ Lies A X := fun f => by
  have := h X f
  omega
set_option maxRecDepth 20000 in
set_option maxHeartbeats 8000000 in
theorem rset (A : Option Addr) (k c B : Nat) (ps : List Nd) (n : Nd) (w : World) (h : See w B A (nds ps)) (hk : ps.length = k) (hin : NdsIn ps) (hn : NdIn n) : Calls Tryz.prog 56 #[.slice A k c, ndV n] w (NdsP w (setT ps n)) := by
  have HS := Lib.hid h
  have HN := Lib.hid hk
  have HIN := Lib.hid hin.2
  have hb := hin.1
  rw [hk] at hb
  have hnp := hn.1
  have HST := Lib.hid (set_step n ps)
  have HCM : Hid (∀ (q : List UInt8) (w1 : World), q.length ≤ 2000 → Calls Tryz.prog 71 #[.string (tx q), .string (tx n.path)] w1 fun e w' => e = .returned (.int .i64 (cmpF (partsF q) (partsF n.path))) ∧ Only (fun _ => False) w1 w') := Lib.hid fun q w1 h => rcompare q n.path w1 (by omega) (by omega)
  clear h hk hin hn
  obtain ⟨X, hX⟩ : ∃ X, w.heap.size = X := ⟨_, rfl⟩
  obtain ⟨w0, hw0⟩ : ∃ w0, w.alloc (.cells #[.string (tx n.path), .bool n.dir, .string (tx n.data), .int .i64 n.mode, .int .i64 n.time] 29) = w0 := ⟨_, rfl⟩
  have HI : Hid (Is w0 X 29 (ndVals n)) := Lib.hid (by
    rw [← hw0, ← hX]
    exact Is.new w _ _)
  have HO0 : Hid (Only (fun _ => False) w w0) := Lib.hid (by
    rw [← hw0]
    exact (Only.refl _ w).alloc _)
  have hX0 : X < w0.heap.size := HI.out.lt
  go_enter Tryz.func56, Tryz.ntmps56
  go_wp2_with fail
  have HNM0 := Lib.hid ((NMade.nil w0))
  clear hX hw0
  go_loopg [5, 6, 7] k (fun gk u v x wx => ∃ (i : Nat) (A1 : Option Addr) (c1 : Nat) (dn : Bool) (out : List Nd), u = .slice A1 out.length c1 ∧ v = .bool dn ∧ x = .int .i64 i ∧ i + gk = k ∧ out.length ≤ i + (if dn = true then 1 else 0) ∧ Hid (NMade w0 A1 out.length c1 out wx) ∧ Hid (setT ps n = out ++ setG n (ps.drop i) dn))
  case atStart => exact ⟨0, none, 0, false, [], rfl, rfl, rfl, by omega, Nat.zero_le _, HNM0, Lib.hid rfl⟩
  case round =>
    obtain ⟨i, A1, c1, dn, out, rfl, rfl, rfl, hi, hol, HM, HR⟩ := hrel
    obtain ⟨m, hm⟩ : ∃ m, out.length = m := ⟨_, rfl⟩
    rw [hm] at HM hol ⊢
    have hol2 : m ≤ i + 1 := by
      cases dn with
      | true => exact hol
      | false => exact Nat.le_succ_of_le hol
    by_cases hlt : i < k
    · have l4 : (i : Int) < (k : Int) := by omega
      have hlt2 : i < ps.length := by rw [HN.out]; exact hlt
      obtain ⟨b, o, rfl, d0, d1, d2, d3, d4⟩ := see_nd (HS.out.new (HO0.out.trans HM.out.2.1)) hlt2
      have HIW : Hid (Is wr X 29 (ndVals n)) := Lib.hid (HI.out.only HM.out.2.1 fun f => f)
      have x0 := HIW.out.cell 0 rfl
      have HT := Lib.hid (HST.out i hlt2 dn)
      obtain ⟨q, hqq⟩ : ∃ q, ps.getD i nd0 = q := ⟨_, rfl⟩
      have HQ : Hid (i < ps.length ∧ ps.getD i nd0 = q) := Lib.hid ⟨hlt2, hqq⟩
      have hq := (HIN.out _ (getD_mem nd0 ps i hlt2)).1
      have HCQ := Lib.hid fun w1 => HCM.out _ w1 hq
      have hcv := cmp_vals (partsF (ps.getD i nd0).path) (partsF n.path)
      rw [hqq] at d0 d1 d2 d3 d4 HT HCQ hcv
      clear hlt2 hq hqq
      generalize cmpF (partsF q.path) (partsF n.path) = C at HT HCQ hcv
      have hcb : -1 ≤ C ∧ C ≤ 1 := by omega
      go_upto_region 6 with fail
      go_region_held3 (fun W => W.cell? ⟨b, o + i * 5, none⟩ = some (.string (tx q.path)) ∧ W.cell? ⟨X, 0, none⟩ = some (.string (tx n.path))) (first | exact ⟨d0, x0⟩ | exact ⟨by assumption, by assumption⟩)
        (first
          | (go_at_call 71; refine (HCQ.out _).mono ?_; rintro e w2 ⟨rfl, o2⟩
             have g0 : w2.cell? ⟨b, o + i * 5, none⟩ = some (.string (tx q.path)) := only_cell (by first | assumption | exact d0) o2
             have y0 : w2.cell? ⟨X, 0, none⟩ = some (.string (tx n.path)) := only_cell (by first | assumption | exact x0) o2
             have HO2 := Lib.hid o2
             clear o2))
      have HOX : Hid (Only (fun _ => False) wr w2) := Lib.hid (((Only.refl _ wr).drew).trans HO2.out)
      have HMB := Lib.hid (HM.out.later HOX.out)
      have g1 := only_cell d1 HOX.out
      have g2 := only_cell d2 HOX.out
      have g3 := only_cell d3 HOX.out
      have g4 := only_cell d4 HOX.out
      have y1 := only_cell (HIW.out.cell 1 rfl) HOX.out
      have y2 := only_cell (HIW.out.cell 2 rfl) HOX.out
      have y3 := only_cell (HIW.out.cell 3 rfl) HOX.out
      have y4 := only_cell (HIW.out.cell 4 rfl) HOX.out
      clear HO2 HM d0 d1 d2 d3 d4 x0 HCQ
      rcases hcv with rfl | rfl | rfl
      · cases dn with
        | true =>
          have HR2 : Hid (setT ps n = out ++ [q] ++ setG n (ps.drop (i + 1)) true) := Lib.hid (by
            rw [HR.out, HT.out]
            simp)
          clear HT HR
          go_wp2_with (at_builtin
                       refine wpList_append_rs rfl (.tmp 35) (.tmp 40) 27 27 29 rfl Tryz.underlying27 infoNd zeroNd A1 m c1 (nds out) (ndVals q) (.slice (some ⟨w2.heap.size, 0, none⟩) 1 1) (by rfl) (by rfl) (HMB.out.1.alloc _) (Src.oneNd w2 q 1 29) (by omega) (by omega) ?_
                       intro A2 c2 w3 hrow2 honly2 hlies2
                       have HM2 : Hid (NMade w0 A2 (m + 1) c2 (out ++ [q]) w3) := Lib.hid (HMB.out.append (by rw [← nds_snoc]; exact hrow2) honly2 hlies2)
                       clear hrow2 honly2 hlies2)
          go_roundg (gk - 1)
          case measure => omega
          case rel =>
            have e : (out ++ [q]).length = m + 1 := by simp [hm]
            refine ⟨i + 1, A2, c2, true, (out ++ [q]), by rw [e], rfl, by go_num, by omega, by rw [e]; simp at hol ⊢; omega, ?_, HR2⟩
            rw [e]
            exact HM2
        | false =>
          have HR2 : Hid (setT ps n = out ++ [q] ++ setG n (ps.drop (i + 1)) false) := Lib.hid (by
            rw [HR.out, HT.out]
            simp)
          clear HT HR
          go_wp2_with (at_builtin
                       refine wpList_append_rs rfl (.tmp 35) (.tmp 40) 27 27 29 rfl Tryz.underlying27 infoNd zeroNd A1 m c1 (nds out) (ndVals q) (.slice (some ⟨w2.heap.size, 0, none⟩) 1 1) (by rfl) (by rfl) (HMB.out.1.alloc _) (Src.oneNd w2 q 1 29) (by omega) (by omega) ?_
                       intro A2 c2 w3 hrow2 honly2 hlies2
                       have HM2 : Hid (NMade w0 A2 (m + 1) c2 (out ++ [q]) w3) := Lib.hid (HMB.out.append (by rw [← nds_snoc]; exact hrow2) honly2 hlies2)
                       clear hrow2 honly2 hlies2)
          go_roundg (gk - 1)
          case measure => omega
          case rel =>
            have e : (out ++ [q]).length = m + 1 := by simp [hm]
            refine ⟨i + 1, A2, c2, false, (out ++ [q]), by rw [e], rfl, by go_num, by omega, by rw [e]; simp at hol ⊢; omega, ?_, HR2⟩
            rw [e]
            exact HM2
      · cases dn with
        | true =>
          have HR2 : Hid (setT ps n = out ++ setG n (ps.drop (i + 1)) true) := Lib.hid (by
            rw [HR.out, HT.out]
            simp)
          clear HT HR
          go_wp2_with fail
          go_roundg (gk - 1)
          case measure => omega
          case rel =>
            refine ⟨i + 1, A1, c1, true, out, by rw [hm], rfl, by go_num, by omega, by rw [hm]; simp at hol ⊢; omega, ?_, HR2⟩
            rw [hm]
            exact HMB
        | false =>
          have HR2 : Hid (setT ps n = out ++ [n] ++ setG n (ps.drop (i + 1)) true) := Lib.hid (by
            rw [HR.out, HT.out]
            simp)
          clear HT HR
          go_wp2_with (at_builtin
                       refine wpList_append_rs rfl (.tmp 29) (.tmp 31) 27 27 29 rfl Tryz.underlying27 infoNd zeroNd A1 m c1 (nds out) (ndVals n) (.slice (some ⟨w2.heap.size, 0, none⟩) 1 1) (by rfl) (by rfl) (HMB.out.1.alloc _) (Src.oneNd w2 n 1 29) (by omega) (by omega) ?_
                       intro A2 c2 w3 hrow2 honly2 hlies2
                       have HM2 : Hid (NMade w0 A2 (m + 1) c2 (out ++ [n]) w3) := Lib.hid (HMB.out.append (by rw [← nds_snoc]; exact hrow2) honly2 hlies2)
                       clear hrow2 honly2 hlies2)
          go_roundg (gk - 1)
          case measure => omega
          case rel =>
            have e : (out ++ [n]).length = m + 1 := by simp [hm]
            refine ⟨i + 1, A2, c2, true, (out ++ [n]), by rw [e], rfl, by go_num, by omega, by rw [e]; simp at hol ⊢; omega, ?_, HR2⟩
            rw [e]
            exact HM2
      · cases dn with
        | true =>
          have HR2 : Hid (setT ps n = out ++ [q] ++ setG n (ps.drop (i + 1)) true) := Lib.hid (by
            rw [HR.out, HT.out]
            simp)
          clear HT HR
          go_wp2_with (at_builtin
                       refine wpList_append_rs rfl (.tmp 35) (.tmp 40) 27 27 29 rfl Tryz.underlying27 infoNd zeroNd A1 m c1 (nds out) (ndVals q) (.slice (some ⟨w2.heap.size, 0, none⟩) 1 1) (by rfl) (by rfl) (HMB.out.1.alloc _) (Src.oneNd w2 q 1 29) (by omega) (by omega) ?_
                       intro A2 c2 w3 hrow2 honly2 hlies2
                       have HM2 : Hid (NMade w0 A2 (m + 1) c2 (out ++ [q]) w3) := Lib.hid (HMB.out.append (by rw [← nds_snoc]; exact hrow2) honly2 hlies2)
                       clear hrow2 honly2 hlies2)
          go_roundg (gk - 1)
          case measure => omega
          case rel =>
            have e : (out ++ [q]).length = m + 1 := by simp [hm]
            refine ⟨i + 1, A2, c2, true, (out ++ [q]), by rw [e], rfl, by go_num, by omega, by rw [e]; simp at hol ⊢; omega, ?_, HR2⟩
            rw [e]
            exact HM2
        | false =>
          have HR2 : Hid (setT ps n = out ++ [n] ++ [q] ++ setG n (ps.drop (i + 1)) true) := Lib.hid (by
            rw [HR.out, HT.out]
            simp)
          clear HT HR
          go_wp2_with (first
                       | (at_builtin
                          refine wpList_append_rs rfl (.tmp 29) (.tmp 31) 27 27 29 rfl Tryz.underlying27 infoNd zeroNd A1 m c1 (nds out) (ndVals n) (.slice (some ⟨w2.heap.size, 0, none⟩) 1 1) (by rfl) (by rfl) (HMB.out.1.alloc _) (Src.oneNd w2 n 1 29) (by omega) (by omega) ?_
                          intro A2 c2 w3 hrow2 honly2 hlies2
                          have HM2 : Hid (NMade w0 A2 (m + 1) c2 (out ++ [n]) w3) := Lib.hid (HMB.out.append (by rw [← nds_snoc]; exact hrow2) honly2 hlies2)
                          clear hrow2 honly2 hlies2
                          obtain ⟨f0, f1, f2, f3, f4⟩ := nd_at (HS.out.new (HO0.out.trans HM2.out.2.1)) HQ.out.1 HQ.out.2)
                       | (at_builtin
                          refine wpList_append_rs rfl (.tmp 35) (.tmp 40) 27 27 29 rfl Tryz.underlying27 infoNd zeroNd A2 (m + 1) c2 (nds (out ++ [n])) (ndVals q) (.slice (some ⟨w3.heap.size, 0, none⟩) 1 1) (by rfl) (by rfl) (HM2.out.1.alloc _) (Src.oneNd w3 q 1 29) (by omega) (by omega) ?_
                          intro A3 c3 w4 hrow2 honly2 hlies2
                          have HM3 : Hid (NMade w0 A3 ((m + 1) + 1) c3 ((out ++ [n]) ++ [q]) w4) := Lib.hid (HM2.out.append (by rw [← nds_snoc]; exact hrow2) honly2 hlies2)
                          clear hrow2 honly2 hlies2))
          go_roundg (gk - 1)
          case measure => omega
          case rel =>
            have e : (out ++ [n] ++ [q]).length = m + 1 + 1 := by simp [hm]
            refine ⟨i + 1, A3, c3, true, (out ++ [n] ++ [q]), by rw [e], rfl, by go_num, by omega, by rw [e]; simp at hol ⊢; omega, ?_, HR2⟩
            rw [e]
            exact HM3
    · obtain rfl : i = k := by omega
      have l4 : ¬ (i : Int) < (i : Int) := by omega
      have HE : Hid (setT ps n = out ++ setG n [] dn) := Lib.hid (by
        rw [HR.out, List.drop_eq_nil_iff.2 (by rw [HN.out]; exact Nat.le_refl _)])
      clear HR
      cases dn with
      | true =>
        have HE2 : Hid (setT ps n = out) := Lib.hid (by rw [HE.out]; simp [setG])
        go_wp2
        go_ret
        rw [HE2.out]
        exact ⟨A1, c1, by rw [hm]; rfl, by rw [hm]; exact HM.out.from HO0.out⟩
      | false =>
        have HE2 : Hid (setT ps n = out ++ [n]) := Lib.hid (by rw [HE.out]; simp [setG])
        have HIW : Hid (Is wr X 29 (ndVals n)) := Lib.hid (HI.out.only HM.out.2.1 fun f => f)
        have y0 := HIW.out.cell 0 rfl
        have y1 := HIW.out.cell 1 rfl
        have y2 := HIW.out.cell 2 rfl
        have y3 := HIW.out.cell 3 rfl
        have y4 := HIW.out.cell 4 rfl
        go_wp2_with (at_builtin
                     refine wpList_append_rs rfl (.tmp 44) (.tmp 46) 27 27 29 rfl Tryz.underlying27 infoNd zeroNd A1 m c1 (nds out) (ndVals n) (.slice (some ⟨wr.heap.size, 0, none⟩) 1 1) (by rfl) (by rfl) (HM.out.1.alloc _) (Src.oneNd wr n 1 29) (by omega) (by omega) ?_
                     intro A2 c2 w3 hrow2 honly2 hlies2
                     have HM2 : Hid (NMade w0 A2 (m + 1) c2 (out ++ [n]) w3) := Lib.hid (HM.out.append (by rw [← nds_snoc]; exact hrow2) honly2 hlies2)
                     clear hrow2 honly2 hlies2)
        go_ret
        rw [HE2.out]
        have e : (out ++ [n]).length = m + 1 := by simp [hm]
        exact ⟨A2, c2, by rw [e]; rfl, by rw [e]; exact HM2.out.from HO0.out⟩
end Go.Proofs.YtaeaomlhbdbbfaaGreatDoor

/- Layer 15, the document: what lies in a directory; what is there; the first that collides; two rows, the same or not. -/
namespace Go.Proofs.YtaeaomlhbdbbfaaGreatDoor
open Go.RowKit

theorem list_step (ps : List Nd) (p : List UInt8) (i : Nat) (h : i < ps.length) : listT (ps.take (i + 1)) p = listT (ps.take i) p ++ if inDir p (ps.getD i nd0) = true then [ps.getD i nd0] else [] := by
  unfold listT
  rw [getD_take_snoc nd0 ps i h, List.filter_append]
  congr 1
  rw [List.filter_cons]
  split <;> rfl
theorem list_len (ps : List Nd) (p : List UInt8) (i : Nat) : (listT (ps.take i) p).length ≤ i := by
  have h1 := List.length_filter_le (inDir p) (ps.take i)
  rw [List.length_take] at h1
  show (List.filter _ _).length ≤ i
  omega
set_option maxRecDepth 20000 in
set_option maxHeartbeats 8000000 in
theorem rlist (A : Option Addr) (n c B : Nat) (ps : List Nd) (p : List UInt8) (w : World) (h : See w B A (nds ps)) (hn : ps.length = n) (hin : NdsIn ps) : Calls Tryz.prog 20 #[.slice A n c, .string (tx p)] w (NdsP w (listT ps p)) := by
  have HS := Lib.hid h
  have HN := Lib.hid hn
  have HIN := Lib.hid hin.2
  have hb := hin.1
  rw [hn] at hb
  have tp := tx_toList p
  have HST := Lib.hid (list_step ps p)
  have HPA : Hid (∀ (q : List UInt8) (w1 : World), q.length ≤ 2000 → Calls Tryz.prog 21 #[.string (tx q)] w1 fun e w' => e = .returned (.tuple #[.string (tx (parentF q).1), .bool (parentF q).2]) ∧ w1 = w') := Lib.hid fun q w1 h => rparent q w1 (by omega)
  clear h hn hin
  go_enter Tryz.func20, Tryz.ntmps20
  go_wp2_with fail
  go_loopg [5, 6] n (fun gk u v wx => ∃ (i : Nat) (A1 : Option Addr) (c1 : Nat), u = .slice A1 (listT (ps.take i) p).length c1 ∧ v = .int .i64 i ∧ i + gk = n ∧ Hid (NMade w A1 (listT (ps.take i) p).length c1 (listT (ps.take i) p) wx))
  case atStart => exact ⟨0, none, 0, rfl, rfl, by omega, Lib.hid (NMade.nil w)⟩
  case round =>
    obtain ⟨i, A1, c1, rfl, rfl, hi, HM⟩ := hrel
    have hfl := list_len ps p i
    by_cases hlt : i < n
    · have l4 : (i : Int) < (n : Int) := by omega
      have hlt2 : i < ps.length := by rw [HN.out]; exact hlt
      obtain ⟨b, o, rfl, d0, d1, d2, d3, d4⟩ := see_nd (HS.out.new HM.out.2.1) hlt2
      have HT := Lib.hid (HST.out i hlt2)
      have hq := (HIN.out _ (getD_mem nd0 ps i hlt2)).1
      have HPQ := Lib.hid (HPA.out _ wr hq)
      clear hlt2 hq
      generalize ps.getD i nd0 = q at d0 d1 d2 d3 d4 HT HPQ
      generalize listT (ps.take i) p = done at HM HT hfl ⊢
      obtain ⟨m, hm⟩ : ∃ m, done.length = m := ⟨_, rfl⟩
      rw [hm] at HM hfl ⊢
      have HG : Hid (inDir p q = (((parentF q.path).2 && decide ((parentF q.path).1 = p)) || (!(parentF q.path).2 && decide (p = [])))) := Lib.hid rfl
      generalize inDir p q = g at HT HG
      generalize (parentF q.path).1 = pq at HPQ HG
      generalize (parentF q.path).2 = ok at HPQ HG
      have tpq := tx_toList pq
      cases ok with
      | true =>
        rw [Bool.true_and, Bool.not_true, Bool.false_and, Bool.or_false] at HG
        by_cases c1 : pq = p
        · have k1 : (pq == p) = true := by rw [beq_iff_eq]; exact c1
          have HF : Hid (listT (ps.take (i + 1)) p = done ++ [q]) := Lib.hid (by rw [HT.out, HG.out, decide_eq_true c1, if_pos rfl])
          clear c1 HT HG
          go_wp2_with (first
                      | (go_at_call 21; refine HPQ.out.mono ?_; rintro e _ ⟨rfl, rfl⟩; clear HPQ)
                      | (at_builtin
                         refine wpList_append_rs rfl (.tmp 38) (.tmp 43) 27 27 29 rfl Tryz.underlying27 infoNd zeroNd A1 m c1 (nds done) (ndVals q) (.slice (some ⟨wr.heap.size, 0, none⟩) 1 1) (by rfl) (by rfl) (HM.out.1.alloc _) (Src.oneNd wr q 1 29) (by omega) (by omega) ?_
                         intro A2 c2 w3 hrow2 honly2 hlies2
                         have HM2 : Hid (NMade w A2 (m + 1) c2 (done ++ [q]) w3) := Lib.hid (HM.out.append (by rw [← nds_snoc]; exact hrow2) honly2 hlies2)
                         clear hrow2 honly2 hlies2))
          go_roundg (gk - 1)
          case measure => omega
          case rel =>
            have e : (done ++ [q]).length = m + 1 := by rw [List.length_append, hm]; rfl
            refine ⟨i + 1, A2, c2, ?_, by go_num, by omega, ?_⟩
            · rw [HF.out, e]
            · rw [HF.out, e]
              exact HM2
        · have k1 : (pq == p) = false := by rw [beq_eq_false_iff_ne]; exact c1
          have HF : Hid (listT (ps.take (i + 1)) p = done) := Lib.hid (by rw [HT.out, HG.out, decide_eq_false c1, if_neg (by decide), List.append_nil])
          clear c1 HT HG
          go_wp2_with (go_at_call 21; refine HPQ.out.mono ?_; rintro e _ ⟨rfl, rfl⟩; clear HPQ)
          go_roundg (gk - 1)
          case measure => omega
          case rel =>
            refine ⟨i + 1, A1, c1, ?_, by go_num, by omega, ?_⟩
            · rw [HF.out, hm]
            · rw [HF.out, hm]
              exact HM
      | false =>
        rw [Bool.false_and, Bool.not_false, Bool.true_and, Bool.false_or] at HG
        by_cases c1 : p = []
        · have k1 : p.isEmpty = true := by rw [c1]; rfl
          have HF : Hid (listT (ps.take (i + 1)) p = done ++ [q]) := Lib.hid (by rw [HT.out, HG.out, decide_eq_true c1, if_pos rfl])
          clear c1 HT HG
          go_wp2_with (first
                      | (go_at_call 21; refine HPQ.out.mono ?_; rintro e _ ⟨rfl, rfl⟩; clear HPQ)
                      | (at_builtin
                         refine wpList_append_rs rfl (.tmp 38) (.tmp 43) 27 27 29 rfl Tryz.underlying27 infoNd zeroNd A1 m c1 (nds done) (ndVals q) (.slice (some ⟨wr.heap.size, 0, none⟩) 1 1) (by rfl) (by rfl) (HM.out.1.alloc _) (Src.oneNd wr q 1 29) (by omega) (by omega) ?_
                         intro A2 c2 w3 hrow2 honly2 hlies2
                         have HM2 : Hid (NMade w A2 (m + 1) c2 (done ++ [q]) w3) := Lib.hid (HM.out.append (by rw [← nds_snoc]; exact hrow2) honly2 hlies2)
                         clear hrow2 honly2 hlies2))
          go_roundg (gk - 1)
          case measure => omega
          case rel =>
            have e : (done ++ [q]).length = m + 1 := by rw [List.length_append, hm]; rfl
            refine ⟨i + 1, A2, c2, ?_, by go_num, by omega, ?_⟩
            · rw [HF.out, e]
            · rw [HF.out, e]
              exact HM2
        · have k1 : p.isEmpty = false := by rw [List.isEmpty_eq_false_iff]; exact c1
          have HF : Hid (listT (ps.take (i + 1)) p = done) := Lib.hid (by rw [HT.out, HG.out, decide_eq_false c1, if_neg (by decide), List.append_nil])
          clear c1 HT HG
          go_wp2_with (go_at_call 21; refine HPQ.out.mono ?_; rintro e _ ⟨rfl, rfl⟩; clear HPQ)
          go_roundg (gk - 1)
          case measure => omega
          case rel =>
            refine ⟨i + 1, A1, c1, ?_, by go_num, by omega, ?_⟩
            · rw [HF.out, hm]
            · rw [HF.out, hm]
              exact HM
    · obtain rfl : i = n := by omega
      have l4 : ¬ (i : Int) < (i : Int) := by omega
      have ht : ps.take i = ps := List.take_of_length_le (by rw [HN.out]; exact Nat.le_refl _)
      rw [ht] at HM hfl ⊢
      go_wp2
      go_ret
      exact ⟨A1, c1, rfl, HM.out⟩
/-- What is answered of what is there. -/
def gotT (ps : List Nd) (p : List UInt8) : Nd × Bool := match atG p ps with
  | none => (nd0, false)
  | some k => (ps.getD k nd0, true)
set_option maxHeartbeats 4000000 in
theorem rget (A : Option Addr) (n c B : Nat) (ps : List Nd) (p : List UInt8) (w : World) (h : See w B A (nds ps)) (hn : ps.length = n) (hb : n ≤ 100000) : Calls Tryz.prog 18 #[.slice A n c, .string (tx p)] w fun e w' => e = .returned (.tuple #[ndV (gotT ps p).1, .bool (gotT ps p).2]) ∧ Only (fun _ => False) w w' := by
  obtain ⟨X, hX⟩ : ∃ X, w.heap.size = X := ⟨_, rfl⟩
  obtain ⟨w0, hw0⟩ : ∃ w0, w.alloc (.cells #[.string ⟨#[]⟩, .bool false, .string ⟨#[]⟩, .int .i64 0, .int .i64 0] 29) = w0 := ⟨_, rfl⟩
  have HXL : Hid (w.heap.size ≤ X) := Lib.hid (by omega)
  have HI : Hid (Is w0 X 29 [.string ⟨#[]⟩, .bool false, .string ⟨#[]⟩, .int .i64 0, .int .i64 0]) := Lib.hid (by
    rw [← hw0, ← hX]
    exact Is.new w _ _)
  have HO0 : Hid (Only (fun _ => False) w w0) := Lib.hid (by
    rw [← hw0]
    exact (Only.refl _ w).alloc _)
  have HA := Lib.hid (rat A n c B ps p w0 (h.new HO0.out) hn (by omega))
  have HS := Lib.hid (h.new HO0.out)
  have HN := Lib.hid hn
  have HL := Lib.hid (at_lt p ps)
  have HE : Hid (∀ r, atG p ps = r → gotT ps p = match r with
    | none => (nd0, false)
    | some k => (ps.getD k nd0, true)) := Lib.hid fun r hr => by
    rw [← hr]
    rfl
  clear h hn
  go_enter Tryz.func18, Tryz.ntmps18
  go_wp2_with fail
  refine HA.out.mono ?_
  rintro e _ ⟨rfl, rfl⟩
  clear HA hw0 hX
  have x0 := HI.out.cell 0 rfl
  have x1 := HI.out.cell 1 rfl
  have x2 := HI.out.cell 2 rfl
  have x3 := HI.out.cell 3 rfl
  have x4 := HI.out.cell 4 rfl
  have z0 := HI.out.frozen 0
  have z1 := HI.out.frozen 1
  have z2 := HI.out.frozen 2
  have z3 := HI.out.frozen 3
  have z4 := HI.out.frozen 4
  generalize atG p ps = r at HL HE
  cases r with
  | none =>
    have HE2 := Lib.hid (HE.out none rfl)
    have e1 : atZ none = -1 := rfl
    go_wp2
    refine bodyPost_ret (res_pair rfl _ _ X 29 _ _ rfl (((((HI.out.set 0 _).set 1 _).set 2 _).set 3 _).set 4 _) Tryz.underlying29 rfl (by kernel_rfl)) rfl ?_
    refine ⟨?_, ((((HO0.out.set (.inr HXL.out) _).set (.inr HXL.out) _).set (.inr HXL.out) _).set (.inr HXL.out) _).set (.inr HXL.out) _⟩
    rw [HE2.out]
    rfl
  | some k =>
    have HE2 : Hid (gotT ps p = (ps.getD k nd0, true)) := Lib.hid (HE.out (some k) rfl)
    have e1 : atZ (some k) = (k : Int) := rfl
    obtain ⟨hk, _⟩ := HL.out k rfl
    obtain ⟨b, o, rfl, d0, d1, d2, d3, d4⟩ := see_nd HS.out hk
    rw [HN.out] at hk
    have l1 : (k : Int) < (n : Int) := by omega
    have l2 : ¬ (k : Int) < 0 := by omega
    have l3 : (0 : Int) ≤ (k : Int) := by omega
    rw [e1]
    clear HL HE e1
    generalize ps.getD k nd0 = q at d0 d1 d2 d3 d4 HE2
    go_wp2
    refine bodyPost_ret (res_pair rfl _ _ X 29 _ _ rfl (((((HI.out.set 0 _).set 1 _).set 2 _).set 3 _).set 4 _) Tryz.underlying29 rfl (by kernel_rfl)) rfl ?_
    refine ⟨?_, ((((HO0.out.set (.inr HXL.out) _).set (.inr HXL.out) _).set (.inr HXL.out) _).set (.inr HXL.out) _).set (.inr HXL.out) _⟩
    rw [HE2.out]
    rfl
theorem coll_head (done : List Nd) (n : Nd) (r : List Nd) : collG done (n :: r) = if collT done n.path = true then some n.path else collG (done ++ [n]) r := rfl
theorem coll_at (ps : List Nd) (i : Nat) (h : i < ps.length) : collG (ps.take i) (ps.drop i) = if collT (ps.take i) (ps.getD i nd0).path = true then some (ps.getD i nd0).path else collG (ps.take (i + 1)) (ps.drop (i + 1)) := by
  rw [List.drop_eq_getElem_cons h, coll_head, getD_take_snoc nd0 ps i h, List.getD_eq_getElem?_getD, List.getElem?_eq_getElem h]
  rfl
/-- What is answered of a collision. -/
def collA : Option (List UInt8) → List UInt8 × Bool
  | none => ([], false)
  | some p => (p, true)
theorem see_take {w : World} {B : Nat} {A : Option Addr} {ps : List Nd} (h : See w B A (nds ps)) (i : Nat) : See w B A (nds (ps.take i)) := fun j v hv => by
  refine h j v ?_
  have e : nds ps = nds (ps.take i) ++ nds (ps.drop i) := by rw [← nds_app, List.take_append_drop]
  rw [e]
  have hl : j < (nds (ps.take i)).length := by
    rcases Nat.lt_or_ge j (nds (ps.take i)).length with g | g
    · exact g
    · rw [List.getElem?_eq_none g] at hv
      cases hv
  rw [List.getElem?_append_left hl]
  exact hv
theorem nds_take {ps : List Nd} (h : NdsIn ps) (i : Nat) : NdsIn (ps.take i) := ⟨by
  have := h.1
  rw [List.length_take]
  omega, fun n hn => h.2 n (List.mem_of_mem_take hn)⟩
set_option maxHeartbeats 4000000 in
theorem rcollision (A : Option Addr) (n c B : Nat) (ps : List Nd) (w : World) (h : See w B A (nds ps)) (hn : ps.length = n) (hin : NdsIn ps) (hc : n ≤ c) : Calls Tryz.prog 23 #[.slice A n c] w fun e w' => e = .returned (.tuple #[.string (tx (collA (collisionT ps)).1), .bool (collA (collisionT ps)).2]) ∧ Only (fun _ => False) w w' := by
  have HS := Lib.hid h
  have HN := Lib.hid hn
  have HIN := Lib.hid hin
  have hb := hin.1
  rw [hn] at hb
  have HCO : Hid (∀ (i : Nat) (w1 : World), i < n → Only (fun _ => False) w w1 → Calls Tryz.prog 42 #[.slice A i c, .string (tx (ps.getD i nd0).path)] w1 fun e w' => e = .returned (.bool (collT (ps.take i) (ps.getD i nd0).path)) ∧ Only (fun _ => False) w1 w') := Lib.hid fun i w1 hi o => rcollides A i c B (ps.take i) _ w1 ((see_take h i).new o) (by rw [List.length_take]; omega) (nds_take hin i) (hin.2 _ (getD_mem nd0 ps i (by omega))).1
  have HST := Lib.hid (coll_at ps)
  clear h hn hin
  go_enter Tryz.func23, Tryz.ntmps23
  go_wp2_with fail
  go_loopg [4] n (fun gk u wx => ∃ i : Nat, u = .int .i64 i ∧ i + gk = n ∧ Hid (Only (fun _ => False) w wx) ∧ Hid (collisionT ps = collG (ps.take i) (ps.drop i)))
  case atStart => exact ⟨0, rfl, by omega, Lib.hid (Only.refl _ _), Lib.hid rfl⟩
  case round =>
    obtain ⟨i, rfl, hi, HO, HK⟩ := hrel
    by_cases hlt : i < n
    · have l4 : (i : Int) < (n : Int) := by omega
      have hlt2 : i < ps.length := by rw [HN.out]; exact hlt
      obtain ⟨b, o, rfl, d0, _⟩ := see_nd (HS.out.new HO.out) hlt2
      have HT := Lib.hid (HST.out i hlt2)
      have HQ := Lib.hid fun w1 (ho : Only (fun _ => False) w w1) => HCO.out i w1 hlt ho
      have hic : i ≤ c := by omega
      have hic2 : (i : Int) ≤ (c : Int) := by omega
      clear hlt2
      generalize (ps.getD i nd0).path = q at d0 HT HQ
      generalize collT (ps.take i) q = D at HT HQ
      go_upto_region 4 with fail
      go_region_held3 (fun W => W.cell? ⟨b, o + i * 5, none⟩ = some (.string (tx q))) (first | exact d0 | assumption)
        (first
          | (go_at_call 42; refine (HQ.out _ (HO.out.drewN 1)).mono ?_; rintro e w2 ⟨rfl, o2⟩
             have g0 : w2.cell? ⟨b, o + i * 5, none⟩ = some (.string (tx q)) := only_cell (by first | assumption | exact d0) o2
             have HO2 := Lib.hid o2
             clear o2))
      have HOX : Hid (Only (fun _ => False) w w2) := Lib.hid ((HO.out.drewN 1).trans HO2.out)
      clear HO2
      cases D with
      | true =>
        have HE : Hid (collisionT ps = some q) := Lib.hid (by rw [HK.out, HT.out, if_pos rfl])
        clear HT HK
        go_wp2
        go_ret2
        rw [HE.out]
        exact ⟨rfl, HOX.out⟩
      | false =>
        have HE : Hid (collisionT ps = collG (ps.take (i + 1)) (ps.drop (i + 1))) := Lib.hid (by rw [HK.out, HT.out, if_neg (by decide)])
        clear HT HK
        go_wp2_with fail
        go_roundg (gk - 1)
        case measure => omega
        case rel => exact ⟨i + 1, by go_num, by omega, HOX, HE⟩
    · obtain rfl : i = n := by omega
      have l4 : ¬ (i : Int) < (i : Int) := by omega
      have HE : Hid (collisionT ps = none) := Lib.hid (by
        rw [HK.out, List.drop_eq_nil_iff.2 (by rw [HN.out]; exact Nat.le_refl _)]
        rfl)
      go_wp2
      go_ret2
      rw [HE.out]
      exact ⟨rfl, HO.out⟩
end Go.Proofs.YtaeaomlhbdbbfaaGreatDoor

/- Layer 15, the document: a path's directories, a node put; two rows, the same or not. -/
namespace Go.Proofs.YtaeaomlhbdbbfaaGreatDoor
open Go.RowKit

theorem setG_len (n : Nd) : ∀ (ps : List Nd) (dn : Bool), (setG n ps dn).length ≤ ps.length + (if dn = true then 0 else 1)
  | [], dn => by cases dn <;> simp [setG]
  | m :: r, dn => by
    have h1 := setG_len n r (dn || decide (0 ≤ cmpF (partsF m.path) (partsF n.path)))
    rw [setG, List.length_append, List.length_append, List.length_cons]
    have hA : (if cmpF (partsF m.path) (partsF n.path) = 0 then [] else [m]).length ≤ 1 := by split <;> simp
    cases dn with
    | true =>
      rw [Bool.true_or] at h1 ⊢
      rw [if_pos rfl] at h1
      rw [if_neg (fun h => by cases h.2)]
      show 0 + (_ + (setG n r true).length) ≤ r.length + 1 + 0
      omega
    | false =>
      rw [Bool.false_or] at h1 ⊢
      by_cases hc : decide (0 ≤ cmpF (partsF m.path) (partsF n.path)) = true
      · rw [hc, if_pos rfl] at h1
        rw [hc, if_pos ⟨rfl, rfl⟩]
        show 1 + (_ + (setG n r true).length) ≤ r.length + 1 + 1
        omega
      · rw [if_neg hc] at h1
        rw [if_neg (fun h => hc h.1)]
        show 0 + (_ + _) ≤ r.length + 1 + 1
        omega
theorem setG_mem (n x : Nd) : ∀ (ps : List Nd) (dn : Bool), x ∈ setG n ps dn → x = n ∨ x ∈ ps
  | [], dn, h => by
    unfold setG at h
    cases dn with
    | true => cases h
    | false => exact .inl (by simpa using h)
  | m :: r, dn, h => by
    rw [setG, List.mem_append, List.mem_append] at h
    rcases h with h | h | h
    · split at h
      · exact .inl (by simpa using h)
      · cases h
    · split at h
      · cases h
      · exact .inr (by simp at h; rw [h]; exact List.mem_cons_self)
    · rcases setG_mem n x r _ h with g | g
      · exact .inl g
      · exact .inr (List.mem_cons_of_mem _ g)
theorem set_len (ps : List Nd) (n : Nd) : (setT ps n).length ≤ ps.length + 1 := setG_len n ps false
theorem set_mem {ps : List Nd} {n x : Nd} (h : x ∈ setT ps n) : x = n ∨ x ∈ ps := setG_mem n x ps false h
theorem dropT_len (ps : List Nd) (p : List UInt8) (self : Bool) : (dropT ps p self).length ≤ ps.length := List.length_filter_le ..
theorem dropT_mem {ps : List Nd} {p : List UInt8} {self : Bool} {x : Nd} (h : x ∈ dropT ps p self) : x ∈ ps := (List.mem_filter.1 h).1
theorem dirNd_in {p : List UInt8} (h : p.length ≤ 2000) : NdIn (dirNd p) := ⟨h, Nat.zero_le _, by show (-9223372036854775808 : Int) ≤ 493; decide, by show (493 : Int) ≤ 9223372036854775807; decide, by show (-9223372036854775808 : Int) ≤ 0; decide, by show (0 : Int) ≤ 9223372036854775807; decide⟩
theorem parent_len (p : List UInt8) : (parentF p).1.length ≤ p.length := by
  cases h : (parentF p).2 with
  | true => exact Nat.le_of_lt (parent_lt p h)
  | false =>
    unfold parentF at h ⊢
    generalize lstF p p.length = r at h ⊢
    cases r with
    | none => exact Nat.zero_le _
    | some k => cases h
theorem head_no {ps : List Nd} {p : List UInt8} (h : (parentF p).2 = false) : headT ps p = ps := by
  unfold headT
  rw [h]
  rfl
theorem ensure_in (L : Nat) : ∀ (p : List UInt8) (ps : List Nd), p.length ≤ L → p.length ≤ 2000 → (∀ n ∈ ps, NdIn n) → (ensureT ps p).length ≤ ps.length + p.length + 1 ∧ ∀ n ∈ ensureT ps p, NdIn n := by
  induction L with
  | zero =>
    intro p ps h h2 hin
    have hp : (parentF p).2 = false := by
      cases e : (parentF p).2 with
      | false => rfl
      | true =>
        have := parent_lt p e
        omega
    rw [ensure_step, head_no hp]
    split
    · exact ⟨by omega, hin⟩
    · have h1 := set_len (dropT ps p true) (dirNd p)
      have h3 := dropT_len ps p true
      refine ⟨by omega, fun n hn => ?_⟩
      rcases set_mem hn with rfl | g
      · exact dirNd_in h2
      · exact hin n (dropT_mem g)
  | succ L ih =>
    intro p ps h h2 hin
    have hh : (headT ps p).length ≤ ps.length + p.length ∧ ∀ n ∈ headT ps p, NdIn n := by
      unfold headT
      by_cases hp : (parentF p).2 = true
      · have hl := parent_lt p hp
        rw [if_pos hp]
        obtain ⟨g1, g2⟩ := ih (parentF p).1 ps (by omega) (by omega) hin
        exact ⟨by omega, g2⟩
      · rw [if_neg hp]
        exact ⟨by omega, hin⟩
    rw [ensure_step]
    split
    · exact ⟨by omega, hh.2⟩
    · have h1 := set_len (dropT (headT ps p) p true) (dirNd p)
      have h3 := dropT_len (headT ps p) p true
      refine ⟨by omega, fun n hn => ?_⟩
      rcases set_mem hn with rfl | g
      · exact dirNd_in h2
      · exact hh.2 n (dropT_mem g)
theorem head_in (p : List UInt8) (ps : List Nd) (h2 : p.length ≤ 2000) (hin : ∀ n ∈ ps, NdIn n) : (headT ps p).length ≤ ps.length + p.length + 1 ∧ ∀ n ∈ headT ps p, NdIn n := by
  unfold headT
  by_cases hp : (parentF p).2 = true
  · have hl := parent_lt p hp
    rw [if_pos hp]
    obtain ⟨g1, g2⟩ := ensure_in _ (parentF p).1 ps (Nat.le_refl _) (by omega) hin
    exact ⟨by omega, g2⟩
  · rw [if_neg hp]
    exact ⟨by omega, hin⟩
/-- Nodes in a row that is the call's own, or the one that came in. -/
def SeeP (w : World) (A0 : Option Addr) (ps : List Nd) (e : Ending) (w' : World) : Prop := ∃ A c B, e = .returned (.slice A ps.length c) ∧ See w' B A (nds ps) ∧ ps.length ≤ c ∧ Only (fun _ => False) w w' ∧ ∀ j, Lies A j → Lies A0 j ∨ (w.heap.size ≤ j ∧ j < w'.heap.size)
theorem rs_cap {e : TypeId} {sz : Nat} {w : World} {A : Option Addr} {n c : Nat} {vs : List Value} (h : Rs e sz w A n c vs) : n ≤ c := by
  obtain ⟨_, ⟨_, h1, h2, _⟩ | ⟨_, _, _, _, h3, _⟩⟩ := h
  · omega
  · exact h3
theorem rs_lies {e : TypeId} {sz : Nat} {w : World} {A : Option Addr} {n c : Nat} {vs : List Value} (h : Rs e sz w A n c vs) : ∀ j, Lies A j → j < w.heap.size := by
  obtain ⟨_, ⟨rfl, _⟩ | ⟨g, cur, rfl, h5, _⟩⟩ := h
  · rintro j ⟨_, e, _⟩
    cases e
  · rintro j ⟨ad, e, rfl⟩
    obtain rfl := Option.some.inj e
    exact block_lt h5
theorem NdsP.see {w : World} {A0 : Option Addr} {ps : List Nd} {e : Ending} {w' : World} (h : NdsP w ps e w') : SeeP w A0 ps e w' := by
  obtain ⟨A, c, rfl, h1, h2, h3⟩ := h
  exact ⟨A, c, _, rfl, h1.see, rs_cap h1, h2, fun j hj => .inr ⟨h3 j hj, rs_lies h1 j hj⟩⟩
theorem SeeP.from {w0 w : World} {A0 A1 : Option Addr} {ps : List Nd} {e : Ending} {w' : World} (h : SeeP w A1 ps e w') (o : Only (fun _ => False) w0 w) (hl : ∀ j, Lies A1 j → Lies A0 j ∨ (w0.heap.size ≤ j ∧ j < w.heap.size)) : SeeP w0 A0 ps e w' := by
  obtain ⟨A, c, B, rfl, h1, h2, h3, h4⟩ := h
  refine ⟨A, c, B, rfl, h1, h2, o.trans h3, fun j hj => ?_⟩
  rcases h4 j hj with g | g
  · exact (hl j g).imp id fun g => ⟨g.1, Nat.lt_of_lt_of_le g.2 h3.size⟩
  · exact .inr ⟨Nat.le_trans o.size g.1, g.2⟩
set_option maxHeartbeats 8000000 in
theorem rensure (L : Nat) : ∀ (p : List UInt8) (A : Option Addr) (n c B : Nat) (ps : List Nd) (w : World), p.length < L → p.length ≤ 2000 → See w B A (nds ps) → ps.length = n → n + p.length + 1 ≤ 100000 → (∀ n ∈ ps, NdIn n) → n ≤ c →
    Calls Tryz.prog 36 #[.slice A n c, .string (tx p)] w (SeeP w A (ensureT ps p)) := by
  induction L with
  | zero =>
    intro p A n c B ps w hL
    omega
  | succ L ih =>
    intro p A n c B ps w hL h2 hS hn hb hin hc
    have HP := Lib.hid (rparent p w (by omega))
    have HSS := Lib.hid hS
    have HNN := Lib.hid hn
    have HIN := Lib.hid hin
    have HFR : Hid (Only (fun _ => False) w w) := Lib.hid (Only.refl _ _)
    have HLI : Hid (∀ j, Lies A j → Lies A j ∨ (w.heap.size ≤ j ∧ j < w.heap.size)) := Lib.hid fun j hj => .inl hj
    by_cases hp : (parentF p).2 = true
    · have hpl := parent_lt p hp
      have HPI := Lib.hid (ih (parentF p).1 A n c B ps w (by omega) (by omega) hS hn (by omega) hin hc)
      have HEN := Lib.hid (ensure_in _ (parentF p).1 ps (Nat.le_refl _) (by omega) hin)
      have HHD : Hid (headT ps p = ensureT ps (parentF p).1) := Lib.hid (if_pos hp)
      rw [hp] at HP
      clear hS hin ih
      generalize (parentF p).1 = pp at *
      generalize ensureT ps pp = hs at HPI HEN HHD
      go_enter Tryz.func36, Tryz.ntmps36
      go_wp2_with fail
      refine HP.out.mono ?_
      rintro e _ ⟨rfl, rfl⟩
      clear HP
      go_wp2_with fail
      refine HPI.out.mono ?_
      rintro e w2 ⟨A2, c2, B2, rfl, s1, s2, s3, s4⟩
      have HS2 := Lib.hid s1
      have HFR2 := Lib.hid s3
      have HLI2 := Lib.hid s4
      have hlen := HEN.out.1
      have HIN2 := Lib.hid HEN.out.2
      clear s1 s3 s4 HPI HEN
      obtain ⟨n2, hn2⟩ : ∃ n2, hs.length = n2 := ⟨_, rfl⟩
      have HN2 := Lib.hid hn2
      rw [hn2] at s2 hlen ⊢
      rw [hn] at hlen
      clear hn2 hn
      have HE : Hid (ensureT ps p = if isDirT hs p = true then hs else setT (dropT hs p true) (dirNd p)) := Lib.hid (by rw [ensure_step, HHD.out])
      have HI := Lib.hid (risdir A2 n2 c2 B2 hs p w2 HS2.out HN2.out (by omega))
      have HD := Lib.hid (rdrop A2 n2 c2 B2 hs p true w2 HS2.out HN2.out ⟨by rw [HN2.out]; omega, HIN2.out⟩ h2)
      have HDI := Lib.hid (show NdsIn (dropT hs p true) from ⟨by have h1 := dropT_len hs p true; rw [HN2.out] at h1; omega, fun n hn => HIN2.out n (dropT_mem hn)⟩)
      have HDN := Lib.hid (dirNd_in h2)
      go_wp2_with fail
      refine HI.out.mono ?_
      rintro e _ ⟨rfl, rfl⟩
      clear HI
      cases hd : isDirT hs p with
      | true =>
        have HE2 : Hid (ensureT ps p = hs) := Lib.hid (by rw [HE.out, if_pos hd])
        clear hd HD
        go_wp2
        go_ret
        rw [HE2.out]
        exact ⟨A2, c2, B2, by rw [HN2.out]; rfl, HS2.out, by rw [HN2.out]; exact s2, HFR2.out, HLI2.out⟩
      | false =>
        have HE2 : Hid (ensureT ps p = setT (dropT hs p true) (dirNd p)) := Lib.hid (by rw [HE.out, if_neg (by rw [hd]; decide)])
        clear hd HE
        go_wp2_with fail
        refine HD.out.mono ?_
        rintro e w5 ⟨A5, c5, rfl, hm5⟩
        have HST := Lib.hid (rset A5 _ c5 _ _ (dirNd p) w5 hm5.1.see rfl HDI.out HDN.out)
        have HO5 := Lib.hid (HFR2.out.trans hm5.2.1)
        have HL5 := Lib.hid hm5.2.2
        have HU5 := Lib.hid (rs_lies hm5.1)
        clear hm5 HD
        go_wp2_with fail
        refine HST.out.mono ?_
        intro e w6 h6
        rw [← HE2.out] at h6
        obtain ⟨A6, c6, B6, rfl, s1, s2, s3, s4⟩ := (NdsP.see (A0 := A5) h6).from HO5.out (A0 := A) fun j hj => .inr ⟨Nat.le_trans HFR2.out.size (HL5.out j hj), HU5.out j hj⟩
        have HF := Lib.hid (And.intro s1 (And.intro s2 (And.intro s3 s4)))
        clear h6 s1 s2 s3 s4 HST
        go_wp2
        go_ret
        exact ⟨A6, c6, B6, rfl, HF.out⟩
    · have hp2 : (parentF p).2 = false := by
        cases e : (parentF p).2 with
        | false => rfl
        | true => exact (hp e).elim
      have HHD : Hid (headT ps p = ps) := Lib.hid (head_no hp2)
      rw [hp2] at HP
      clear hS hin ih hp hn
      generalize (parentF p).1 = pp at *
      go_enter Tryz.func36, Tryz.ntmps36
      go_wp2_with fail
      refine HP.out.mono ?_
      rintro e _ ⟨rfl, rfl⟩
      clear HP
      have HE : Hid (ensureT ps p = if isDirT ps p = true then ps else setT (dropT ps p true) (dirNd p)) := Lib.hid (by rw [ensure_step, HHD.out])
      have HI := Lib.hid (risdir A n c B ps p w HSS.out HNN.out (by omega))
      have HD := Lib.hid (rdrop A n c B ps p true w HSS.out HNN.out ⟨by rw [HNN.out]; omega, HIN.out⟩ h2)
      have HDI := Lib.hid (show NdsIn (dropT ps p true) from ⟨by have h1 := dropT_len ps p true; rw [HNN.out] at h1; omega, fun n hn => HIN.out n (dropT_mem hn)⟩)
      have HDN := Lib.hid (dirNd_in h2)
      go_wp2_with fail
      refine HI.out.mono ?_
      rintro e _ ⟨rfl, rfl⟩
      clear HI
      cases hd : isDirT ps p with
      | true =>
        have HE2 : Hid (ensureT ps p = ps) := Lib.hid (by rw [HE.out, if_pos hd])
        clear hd HD
        go_wp2
        go_ret
        rw [HE2.out]
        exact ⟨A, c, B, by rw [HNN.out]; rfl, HSS.out, by rw [HNN.out]; exact hc, HFR.out, HLI.out⟩
      | false =>
        have HE2 : Hid (ensureT ps p = setT (dropT ps p true) (dirNd p)) := Lib.hid (by rw [HE.out, if_neg (by rw [hd]; decide)])
        clear hd HE
        go_wp2_with fail
        refine HD.out.mono ?_
        rintro e w5 ⟨A5, c5, rfl, hm5⟩
        have HST := Lib.hid (rset A5 _ c5 _ _ (dirNd p) w5 hm5.1.see rfl HDI.out HDN.out)
        have HO5 := Lib.hid (HFR.out.trans hm5.2.1)
        have HL5 := Lib.hid hm5.2.2
        have HU5 := Lib.hid (rs_lies hm5.1)
        clear hm5 HD
        go_wp2_with fail
        refine HST.out.mono ?_
        intro e w6 h6
        rw [← HE2.out] at h6
        obtain ⟨A6, c6, B6, rfl, s1, s2, s3, s4⟩ := (NdsP.see (A0 := A5) h6).from HO5.out (A0 := A) fun j hj => .inr ⟨Nat.le_trans HFR.out.size (HL5.out j hj), HU5.out j hj⟩
        have HF := Lib.hid (And.intro s1 (And.intro s2 (And.intro s3 s4)))
        clear h6 s1 s2 s3 s4 HST
        go_wp2
        go_ret
        exact ⟨A6, c6, B6, rfl, HF.out⟩
end Go.Proofs.YtaeaomlhbdbbfaaGreatDoor
