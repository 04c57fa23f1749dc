/- Layer 7, the document: the rows of symbols. -/
import Derived.Test.YtjlkjebmilfgoaaGreatM3
import Derived.OwnWalk
import Derived.Test.YtjlkjebmilfgoaaGreatM8
import Derived.Test.YtjlkjebmilfgoaaGreatM9
/- Rows of structs of the call's own, and append onto such a row (over any program); the rows of symbols as cells. -/
namespace Go.Proofs.YtjlkjebmilfgoaaGreat
open Go.RowKit

/-- The slice 'A, n, c' is a row of structs of the call's own, sz cells each: the cells vs. -/
def Rs (e : TypeId) (sz : Nat) (w : World) (A : Option Addr) (n c : Nat) (vs : List Value) : Prop := vs.length = n * sz ∧ ((A = none ∧ n = 0 ∧ c = 0 ∧ vs = []) ∨
  ∃ g cur, A = some ⟨g, 0, none⟩ ∧ w.heap[g]? = some (.cells cur e (0, 0)) ∧ n ≤ c ∧ c ≤ maxLen ∧ cur.size = c * sz ∧ cur.toList.take (n * sz) = vs)
section
variable {S : Nat → Prop} {e : TypeId} {sz : Nat} {w w' : World} {A : Option Addr} {n c : Nat} {vs : List Value}
theorem Rs.nil (e : TypeId) (sz : Nat) (w : World) : Rs e sz w none 0 0 [] := ⟨by simp, .inl ⟨rfl, rfl, rfl, rfl⟩⟩
theorem Rs.only (h : Rs e sz w A n c vs) (k : Only S w w') (hg : ∀ j, Lies A j → ¬ S j) : Rs e sz w' A n c vs := by
  obtain ⟨h1, h4 | ⟨g, cur, rfl, h5, h6⟩⟩ := h
  · exact ⟨h1, .inl h4⟩
  · exact ⟨h1, .inr ⟨g, cur, rfl, (k.block g (block_lt h5) (hg g ⟨_, rfl, rfl⟩)).trans h5, h6⟩⟩
theorem Rs.alloc (h : Rs e sz w A n c vs) (o : Obj) : Rs e sz (w.alloc o) A n c vs := h.only ((Only.refl (fun _ => False) w).alloc o) fun _ _ f => f
theorem Rs.cell (h : Rs e sz w A n c vs) {i : Nat} {v : Value} (hi : vs[i]? = some v) : ∃ g, A = some ⟨g, 0, none⟩ ∧ w.cell? ⟨g, i, none⟩ = some v := by
  have hl : i < n * sz := by
    rw [← h.1]
    rcases Nat.lt_or_ge i vs.length with hh | hh
    · exact hh
    · rw [List.getElem?_eq_none hh] at hi; cases hi
  obtain ⟨h1, ⟨_, h0, _⟩ | ⟨g, cur, rfl, h2, h3, h4, h5, h6⟩⟩ := h
  · rw [h0, Nat.zero_mul] at hl; omega
  · have h8 := congrArg (·[i]?) h6
    simp only [List.getElem?_take, if_pos hl, hi] at h8
    exact ⟨g, rfl, by simpa [World.cell?, h2] using h8⟩
theorem Rs.see (h : Rs e sz w A n c vs) : See w w.heap.size A vs := by
  intro i v hv
  obtain ⟨g, hA, hc⟩ := h.cell hv
  exact ⟨g, 0, hA, cell_lt hc, by rw [Nat.zero_add]; exact hc⟩
end
/-- append of one struct onto it. -/
theorem run_append_rs {P : Program} {t tx ty e : TypeId} {z : Value} {sz B : Nat} {w : World} {A : Option Addr} {n c : Nat} {l r : List Value} {x : Value} (ht : P.underlying t = some (.slice e))
    (hi : (P.info? e).map (fun i => (i.zero, i.size, i.bytes)) = some (some z, sz, B)) (hzs : z.cells.size = sz) (h : Rs e sz w A n c l) (hs : Src P sz tx x 1 r w) (hB : B ≤ 1000) (hb : n ≤ 1000000) :
    ∃ A' c' w', (Builtin.append_ #[t, tx] ty #[.slice A n c, x]).run P w = .ok (.slice A' (n + 1) c') w' ∧ Rs e sz w' A' (n + 1) c' (l ++ r) ∧ Only (Lies A) w w' ∧
      (A' = A ∨ A' = some ⟨w.heap.size, 0, none⟩) := by
  obtain ⟨i, hi, hz, hsz, hby⟩ := info_parts hi
  have hr : r.length = sz := by have := hs.newsLen; omega
  have e1 : (n + 1) * sz = n * sz + sz := by rw [Nat.add_mul, Nat.one_mul]
  have hlen : (l ++ r).length = (n + 1) * sz := by rw [List.length_append, h.1, hr, e1]
  by_cases hroom : n + 1 ≤ c
  · obtain ⟨h1, ⟨rfl, rfl, rfl, rfl⟩ | ⟨g, cur, rfl, h2, h3, h4, h5, h6⟩⟩ := h
    · omega
    · have e2 : (n + 1) * sz ≤ c * sz := Nat.mul_le_mul_right _ hroom
      have hrun := run_append_room_src (P := P) w t tx ty e i ht hi g 0 n c x 1 r (by rw [hsz]; exact hs) hroom
        (by intro j hj; simp only [hsz, World.cell?, h2]; simp; omega)
        (by intro j hj; simp [World.frozen?, h2])
      rw [hsz, Nat.zero_add] at hrun
      obtain ⟨cur', k1, k2, k3⟩ := setCells_heap g e (0, 0) r (n * sz) w cur h2 (by omega)
      refine ⟨_, c, _, hrun, ⟨hlen, .inr ⟨g, cur', rfl, k1, hroom, h4, by rw [k2, h5], ?_⟩⟩, (setCells_only g _ _ w).mono ?_, .inl rfl⟩
      · rw [hr] at k3
        rw [e1, k3, h6]
      · rintro j rfl
        exact ⟨_, rfl, rfl⟩
  · have hm : n + 1 ≤ maxLen := by simp only [maxLen]; omega
    have hold : (Builtin.firstCells i.size n (.slice A n c)).run P w.drew = .ok l.toArray w.drew := by
      rw [hsz]
      have hc := fun (j : Nat) (v : Value) (hj : l[j]? = some v) => h.cell hj
      obtain ⟨h1, ⟨rfl, rfl, rfl, rfl⟩ | ⟨g, cur, rfl, h2, h3, h4, h5, h6⟩⟩ := h
      · exact run_firstCells_none w.drew sz 0 0 0
      · refine run_firstCells_some w.drew sz n ⟨g, 0, none⟩ n c l h1 fun j v hj => ?_
        obtain ⟨g', e1, e2⟩ := hc j v hj
        simp only [Option.some.injEq, Addr.mk.injEq, and_true] at e1
        subst e1
        rw [Addr.add_lit, Nat.zero_add]
        exact e2
    have hfit : (n + 1) * B ≤ (n + 1) * 1000 := Nat.mul_le_mul_left _ hB
    have hrun := run_append_grow_src (P := P) w t tx ty e i z ht hi hz A n c l hold x 1 r (by rw [hsz]; exact hs) (by omega) (by omega) (growslice_fits (by omega) (by rw [hby]; omega))
    refine ⟨_, _, _, hrun, ⟨hlen, .inr ⟨w.heap.size, _, rfl, heap_alloc_new w.drew _, grownCap_ge w _ _ _, grownCap_le_maxLen w _ _ _ hm, ?_, ?_⟩⟩, ((Only.refl _ w).drew).alloc _, .inr rfl⟩
    · have hge := grownCap_ge w (n + 1) c e
      rw [Array.size_append, size_zeroCells, hzs, List.size_toArray, hlen, ← Nat.add_mul]
      congr 1
      omega
    · rw [Array.toList_append, List.toList_toArray, ← hlen]
      exact List.take_left
theorem wpList_append_rs {P : Program} {z : Value} {sz B : Nat} {w : World} {ops : Array Oper} {rest : List Oper} {o : Oper} {a : Act} {Q : Exit → Act → World → Prop} (hgd : o.guard = none) (s x : Operand) (t tx e : TypeId)
    (ho : o.op = .call { callee := .builtin .append, args := #[s, x], argTypes := #[t, tx] }) (ht : P.underlying t = some (.slice e))
    (hi : (P.info? e).map (fun i => (i.zero, i.size, i.bytes)) = some (some z, sz, B)) (hzs : z.cells.size = sz) (A : Option Addr) (n c : Nat) (l r : List Value) (y : Value) (hsv : a.eval s = .slice A n c) (hxv : a.eval x = y)
    (h : Rs e sz w A n c l) (hs : Src P sz tx y 1 r w) (hB : B ≤ 1000) (hb : n ≤ 1000000)
    (hk : ∀ A' c' w', Rs e sz w' A' (n + 1) c' (l ++ r) → Only (Lies A) w w' → (A' = A ∨ A' = some ⟨w.heap.size, 0, none⟩) → wpList P ops Q rest (a.put o.dst (.slice A' (n + 1) c')) w') :
    wpList P ops Q (o :: rest) a w := by
  refine wpList_plain hgd fun K hK => ?_
  obtain ⟨A', c', w', hrun, h2, h3, h4⟩ := run_append_rs (ty := o.type) ht hi hzs h hs hB hb
  unfold Oper.wp execOp
  simp only [ho, resolve, invoke, builtin, Sem.run_bind, Sem.run_pure, Result.andThen_ok, List.map_toArray, List.map_cons, List.map_nil, hsv, hxv, hrun]
  exact hK _ _ (hk A' c' w' h2 h3 h4)

/-- Rows of symbols as cells. -/
def syc (x : Sy) : List Value := [.int .i64 (x.s : Nat), .int .i64 (x.f : Nat), .int .i64 (x.b : Nat)]
def sys (R : List Sy) : List Value := R.flatMap syc
theorem sys_snoc (R : List Sy) (x : Sy) : sys R ++ syc x = sys (R ++ [x]) := by simp [sys]
theorem sys_length (R : List Sy) : (sys R).length = R.length * 3 := by
  induction R with
  | nil => rfl
  | cons x r ih => simp [sys, syc] at ih ⊢; omega
theorem sys_at : ∀ (R : List Sy) (i : Nat) (x : Sy), R[i]? = some x → ∀ (j : Nat) (v : Value), (syc x)[j]? = some v → (sys R)[i * 3 + j]? = some v
  | [], _, _, h, _, _, _ => by simp at h
  | y :: r, 0, x, h, j, v, hv => by
    obtain rfl : y = x := by simpa using h
    have hj : j < (syc y).length := by
      rcases Nat.lt_or_ge j (syc y).length with h1 | h1
      · exact h1
      · rw [List.getElem?_eq_none h1] at hv; cases hv
    simp only [sys, List.flatMap_cons, Nat.zero_mul, Nat.zero_add]
    rw [List.getElem?_append_left hj, hv]
  | y :: r, i + 1, x, h, j, v, hv => by
    have := sys_at r i x (by simpa using h) j v hv
    simp only [sys, List.flatMap_cons] at this ⊢
    rw [List.getElem?_append_right (by simp [syc]; omega), show (i + 1) * 3 + j - (syc y).length = i * 3 + j from by simp [syc]; omega, this]
/-- The cells of one row. -/
theorem See.sym {w : World} {B : Nat} {A : Option Addr} {R : List Sy} (h : See w B A (sys R)) (i : Nat) (x : Sy) (hx : R[i]? = some x) : ∃ b off, A = some ⟨b, off, none⟩ ∧ b < B ∧
    w.cell? ⟨b, off + i * 3, none⟩ = some (.int .i64 (x.s : Nat)) ∧ w.cell? ⟨b, off + i * 3 + 1, none⟩ = some (.int .i64 (x.f : Nat)) ∧ w.cell? ⟨b, off + i * 3 + 2, none⟩ = some (.int .i64 (x.b : Nat)) := by
  obtain ⟨b, off, rfl, hb, c0⟩ := h _ _ (sys_at R i x hx 0 _ rfl)
  obtain ⟨b1, off1, e1, _, c1⟩ := h _ _ (sys_at R i x hx 1 _ rfl)
  obtain ⟨b2, off2, e2, _, c2⟩ := h _ _ (sys_at R i x hx 2 _ rfl)
  simp only [Option.some.injEq, Addr.mk.injEq, and_true] at e1 e2
  obtain ⟨rfl, rfl⟩ := e1
  obtain ⟨rfl, rfl⟩ := e2
  exact ⟨b, off, rfl, hb, c0, by rw [Nat.add_assoc]; exact c1, by rw [Nat.add_assoc]; exact c2⟩
theorem Src.oneSym (w : World) (s f b : Nat) (c : Nat) (t : TypeId) : Src Tryz.prog 3 141 (.slice (some ⟨w.heap.size, 0, none⟩) 1 c) 1 [.int .i64 (s : Nat), .int .i64 (f : Nat), .int .i64 (b : Nat)] (w.alloc (.cells #[.int .i64 (s : Nat), .int .i64 (f : Nat), .int .i64 (b : Nat)] t)) := by
  refine Src.ofSlice _ Tryz.underlying141 _ 1 c _ rfl (fun j u hu => ?_) (by simp [Value.oneCell'])
  have h := Is.new w t [.int .i64 (s : Nat), .int .i64 (f : Nat), .int .i64 (b : Nat)]
  rw [Addr.add_lit, Nat.zero_add]
  exact h.cell j hu
theorem info102 : (Tryz.prog.info? 159).map (fun i => (i.zero, i.size, i.bytes)) = some (some (.agg #[.int .i64 0, .int .i64 0, .int .i64 0]), 3, 24) := by kernel_rfl
theorem zero51 : (Value.agg #[.int .i64 0, .int .i64 0, .int .i64 0]).cells.size = 3 := by simp [Value.cells]
/-- Such a row, laid since w. -/
def SyMade (w : World) (A : Option Addr) (n c : Nat) (R : List Sy) (wx : World) : Prop := Rs 159 3 wx A n c (sys R) ∧ Only (fun _ => False) w wx ∧ ∀ j, Lies A j → w.heap.size ≤ j
theorem SyMade.append {w wx wy : World} {A A' : Option Addr} {n c n' c' : Nat} {R R' : List Sy} {o : Obj} (h : SyMade w A n c R wx) (hr : Rs 159 3 wy A' n' c' (sys R')) (ho : Only (Lies A) (wx.alloc o) wy) (ha : A' = A ∨ A' = some ⟨(wx.alloc o).heap.size, 0, none⟩) : SyMade w A' n' c' R' wy := by
  refine ⟨hr, (h.2.1.alloc o).andThen ho fun j hj => .inr (h.2.2 j hj), fun j hj => ?_⟩
  rcases ha with e1 | e1
  · exact h.2.2 j (e1 ▸ hj)
  · obtain ⟨ad, e2, e3⟩ := hj
    rw [e1] at e2
    obtain rfl := Option.some.inj e2
    have h1 := h.2.1.size
    have h2 : (wx.alloc o).heap.size = j := e3
    simp at h2
    omega

set_option maxHeartbeats 1000000 in
/-- 2 to the power of b. -/
theorem power (b : Nat) (w : World) (hb : b ≤ 15) : Calls Tryz.prog 113 #[.int .i64 b] w fun e w' => e = .returned (.int .i64 (2 ^ b : Nat)) ∧ w' = w := by
  go_enter Tryz.func113, Tryz.ntmps113
  go_wp2_with fail
  go_loopg [3, 4] b (fun gk v i wx => ∃ (j p : Nat), i = .int .i64 j ∧ v = .int .i64 p ∧ j + gk ≤ b ∧ b ≤ j + gk ∧ Hid (2 ^ j = p) ∧ p ≤ 32768 ∧ wx = w)
  case atStart => exact ⟨0, 1, rfl, rfl, by omega, by omega, Lib.hid rfl, by omega, rfl⟩
  case round =>
    obtain ⟨j, p, rfl, rfl, hg1, hg2, HP, hp, rfl⟩ := hrel
    by_cases hlt : j < b
    · have h2 : 2 ^ (j + 1) ≤ 2 ^ 15 := Nat.pow_le_pow_right (by decide) (by omega)
      have h3 : 2 * p ≤ 32768 := by rw [Nat.pow_succ, HP.out] at h2; omega
      have HP2 : Hid (2 ^ (j + 1) = 2 * p) := Lib.hid (by rw [Nat.pow_succ, HP.out]; omega)
      clear h2
      go_wp2
      go_roundg (gk - 1)
      case measure => omega
      case rel => exact ⟨j + 1, 2 * p, by go_num, by go_num, by omega, by omega, HP2, by omega, rfl⟩
    · obtain rfl : j = b := by omega
      go_wp2
      go_ret
      exact ⟨by rw [HP.out]; rfl, rfl⟩
end Go.Proofs.YtjlkjebmilfgoaaGreat

/- Layer 7: the rows of lengths and of distances, by the document. -/
namespace Go.Proofs.YtjlkjebmilfgoaaGreat
open Go.RowKit

def SyPost (w : World) (n : Nat) (R : List Sy) (e : Ending) (w' : World) : Prop := ∃ A c, e = .returned (.slice A n c) ∧ SyMade w A n c R w'
def lfirst (j : Nat) : List Sy := (List.range j).map lrow
def dfirst (j : Nat) : List Sy := (List.range j).map drow
theorem lfirst_snoc (j : Nat) : lfirst j ++ [lrow j] = lfirst (j + 1) := by simp [lfirst, List.range_succ]
theorem dfirst_snoc (j : Nat) : dfirst j ++ [drow j] = dfirst (j + 1) := by simp [dfirst, List.range_succ]
theorem lb_le (j : Nat) (h : j < 28) : lb j ≤ 5 := by unfold lb; split <;> omega
theorem db_le (j : Nat) (h : j < 30) : db j ≤ 13 := by unfold db; split <;> omega
theorem lf_all : ∀ j : Fin 29, lf j.val ≤ 259 := by decide +kernel
theorem df_all : ∀ j : Fin 31, df j.val ≤ 32769 := by decide +kernel
theorem lf_le (j : Nat) (h : j ≤ 28) : lf j ≤ 259 := lf_all ⟨j, by omega⟩
theorem df_le (j : Nat) (h : j ≤ 30) : df j ≤ 32769 := df_all ⟨j, by omega⟩

set_option maxHeartbeats 4000000 in
theorem rdistances (w : World) : Calls Tryz.prog 94 #[] w (SyPost w 30 drows) := by
  go_enter Tryz.func94, Tryz.ntmps94
  go_wp2_with fail
  go_loopg [1, 2, 3] 30 (fun gk v1 v2 i wx => ∃ (j F : Nat) (A : Option Addr) (c : Nat), i = .int .i64 j ∧ v2 = .int .i64 F ∧ v1 = .slice A j c ∧ j + gk ≤ 30 ∧ 30 ≤ j + gk ∧ F ≤ 32769 ∧ Hid (df j = F) ∧ Hid (SyMade w A j c (dfirst j) wx))
  case atStart => exact ⟨0, 1, none, 0, rfl, rfl, rfl, by omega, by omega, by omega, Lib.hid rfl, Lib.hid ⟨Rs.nil 159 3 w, Only.refl _ w, by rintro j ⟨ad, e, _⟩; cases e⟩⟩
  case round =>
    obtain ⟨j, F, A, c, rfl, rfl, rfl, hg1, hg2, hF, HF, HS⟩ := hrel
    by_cases hlt : j < 30
    · obtain ⟨y, hy⟩ : ∃ y, db j = y := ⟨_, rfl⟩
      have hy13 : y ≤ 13 := hy ▸ db_le j hlt
      obtain ⟨p, hp⟩ : ∃ p, 2 ^ y = p := ⟨_, rfl⟩
      have hF2 : F + p ≤ 32769 := by rw [← hp, ← hy, ← HF.out]; exact df_le (j + 1) (by omega)
      have HF2 : Hid (df (j + 1) = F + p) := Lib.hid (by rw [df, HF.out, hy, hp])
      have HP := Lib.hid hp
      have HR : Hid (syc (drow j) = [.int .i64 (j : Nat), .int .i64 (F : Nat), .int .i64 (y : Nat)]) := Lib.hid (by simp [syc, drow, HF.out, hy])
      clear hp
      by_cases hj : j < 4
      · obtain rfl : y = 0 := by rw [← hy]; simp [db, hj]
        clear hy
        go_upto_region 9 with fail
        go_wp2_with (first
          | (go_at_call 113; refine (power 0 _ (by omega)).mono ?_; rintro e w' ⟨rfl, rfl⟩; rw [HP.out])
          | (at_builtin
             refine wpList_append_rs rfl (.tmp 14) (.tmp 19) 141 141 159 rfl Tryz.underlying141 info102 zero51 A j c (sys (dfirst j)) [.int .i64 (j : Nat), .int .i64 (F : Nat), .int .i64 (0 : Nat)] (.slice (some ⟨wr.heap.size, 0, none⟩) 1 1) (by rfl) (by rfl) (HS.out.1.alloc _) (Src.oneSym wr j F 0 1 159) (by omega) (by omega) ?_
             intro A3 c3 w3 hrow2 honly2 hlies2
             have H3 : Hid (SyMade w A3 (j + 1) c3 (dfirst (j + 1)) w3) := Lib.hid (HS.out.append (by rw [← dfirst_snoc, ← sys_snoc, HR.out]; exact hrow2) honly2 hlies2)
             clear hrow2 honly2 hlies2))
        go_roundg (gk - 1)
        case measure => omega
        case rel => exact ⟨j + 1, F + p, A3, c3, by go_num, by go_num, rfl, by omega, by omega, by omega, HF2, H3⟩
      · have e : ((j : Int) - 2) / 2 = (y : Int) := by rw [← hy]; simp only [db, if_neg hj]; omega
        clear hy
        go_upto_region 9 with fail
        rw [e]
        clear e
        go_wp2_with (first
          | (go_at_call 113; refine (power y _ (by omega)).mono ?_; rintro e w' ⟨rfl, rfl⟩; rw [HP.out])
          | (at_builtin
             refine wpList_append_rs rfl (.tmp 14) (.tmp 19) 141 141 159 rfl Tryz.underlying141 info102 zero51 A j c (sys (dfirst j)) [.int .i64 (j : Nat), .int .i64 (F : Nat), .int .i64 (y : Nat)] (.slice (some ⟨wr.heap.size, 0, none⟩) 1 1) (by rfl) (by rfl) (HS.out.1.alloc _) (Src.oneSym wr j F y 1 159) (by omega) (by omega) ?_
             intro A3 c3 w3 hrow2 honly2 hlies2
             have H3 : Hid (SyMade w A3 (j + 1) c3 (dfirst (j + 1)) w3) := Lib.hid (HS.out.append (by rw [← dfirst_snoc, ← sys_snoc, HR.out]; exact hrow2) honly2 hlies2)
             clear hrow2 honly2 hlies2))
        go_roundg (gk - 1)
        case measure => omega
        case rel => exact ⟨j + 1, F + p, A3, c3, by go_num, by go_num, rfl, by omega, by omega, by omega, HF2, H3⟩
    · obtain rfl : j = 30 := by omega
      have HN : Hid (SyPost w 30 drows (.returned (.slice A 30 c)) wr) := Lib.hid ⟨A, c, rfl, HS.out⟩
      go_wp2
      go_ret
      exact HN.out

set_option maxRecDepth 20000 in
set_option maxHeartbeats 8000000 in
theorem rlengths (w : World) : Calls Tryz.prog 93 #[] w (SyPost w 29 lrows) := by
  go_enter Tryz.func93, Tryz.ntmps93
  go_wp2_with fail
  go_loopg [1, 2, 3] 28 (fun gk v1 v2 i wx => ∃ (j S F : Nat) (A : Option Addr) (c : Nat), i = .int .i64 S ∧ v2 = .int .i64 F ∧ v1 = .slice A j c ∧ 257 + j = S ∧ j + gk ≤ 28 ∧ 28 ≤ j + gk ∧ F ≤ 259 ∧ Hid (lf j = F) ∧ Hid (SyMade w A j c (lfirst j) wx))
  case atStart => exact ⟨0, 257, 3, none, 0, rfl, rfl, rfl, by omega, by omega, by omega, by omega, Lib.hid rfl, Lib.hid ⟨Rs.nil 159 3 w, Only.refl _ w, by rintro j ⟨ad, e, _⟩; cases e⟩⟩
  case round =>
    obtain ⟨j, S, F, A, c, rfl, rfl, rfl, hS, hg1, hg2, hF, HF, HS⟩ := hrel
    obtain ⟨gO, hgO⟩ : ∃ gO, gk = gO := ⟨_, rfl⟩
    by_cases hlt : j < 28
    · obtain ⟨y, hy⟩ : ∃ y, lb j = y := ⟨_, rfl⟩
      have hy5 : y ≤ 5 := hy ▸ lb_le j hlt
      obtain ⟨p, hp⟩ : ∃ p, 2 ^ y = p := ⟨_, rfl⟩
      have hF2 : F + p ≤ 259 := by rw [← hp, ← hy, ← HF.out]; exact lf_le (j + 1) (by omega)
      have HF2 : Hid (lf (j + 1) = F + p) := Lib.hid (by rw [lf, HF.out, hy, hp])
      have HP := Lib.hid hp
      have HR : Hid (syc (lrow j) = [.int .i64 (S : Nat), .int .i64 (F : Nat), .int .i64 (y : Nat)]) := Lib.hid (by simp [syc, lrow, HF.out, hy, ← hS])
      clear hp
      by_cases hj : j < 8
      · obtain rfl : y = 0 := by rw [← hy]; simp [lb, hj]
        clear hy
        go_upto_region 9 with fail
        go_wp2_with (first
          | (at_builtin
             refine wpList_append_rs rfl (.tmp 15) (.tmp 20) 141 141 159 rfl Tryz.underlying141 info102 zero51 A j c (sys (lfirst j)) [.int .i64 (S : Nat), .int .i64 (F : Nat), .int .i64 (0 : Nat)] (.slice (some ⟨wr.heap.size, 0, none⟩) 1 1) (by rfl) (by rfl) (HS.out.1.alloc _) (Src.oneSym wr S F 0 1 159) (by omega) (by omega) ?_
             intro A3 c3 w3 hrow2 honly2 hlies2
             have H3 : Hid (SyMade w A3 (j + 1) c3 (lfirst (j + 1)) w3) := Lib.hid (HS.out.append (by rw [← lfirst_snoc, ← sys_snoc, HR.out]; exact hrow2) honly2 hlies2)
             clear hrow2 honly2 hlies2)
          | fail)
        go_loopg [2, 5] p (fun gk v2 i wx => ∃ (k f : Nat), i = .int .i64 k ∧ v2 = .int .i64 f ∧ F + k = f ∧ k + gk ≤ p ∧ p ≤ k + gk ∧ wx = w3)
        case atStart => exact ⟨0, F, rfl, rfl, by omega, by omega, by omega, rfl⟩
        case round =>
          obtain ⟨k, f, rfl, rfl, hf, hk1, hk2, rfl⟩ := hrel
          by_cases hkp : k < p
          · go_wp2_with (go_at_call 113; refine (power 0 _ (by omega)).mono ?_; rintro e w' ⟨rfl, rfl⟩; rw [HP.out])
            go_roundg (gk - 1)
            case measure => omega
            case rel => exact ⟨k + 1, f + 1, by go_num, by go_num, by omega, by omega, by omega, rfl⟩
          · obtain rfl : k = p := by omega
            go_wp2_with (go_at_call 113; refine (power 0 _ (by omega)).mono ?_; rintro e w' ⟨rfl, rfl⟩; rw [HP.out])
            go_roundg (gO - 1)
            case measure => omega
            case rel => exact ⟨j + 1, S + 1, F + k, A3, c3, by go_num, by rw [hf], rfl, by omega, by omega, by omega, by omega, HF2, H3⟩
      · have e : ((S : Int) - 261) / 4 = (y : Int) := by rw [← hy]; simp only [lb, if_neg hj]; omega
        clear hy
        go_upto_region 9 with fail
        rw [e]
        clear e
        go_wp2_with (first
          | (at_builtin
             refine wpList_append_rs rfl (.tmp 15) (.tmp 20) 141 141 159 rfl Tryz.underlying141 info102 zero51 A j c (sys (lfirst j)) [.int .i64 (S : Nat), .int .i64 (F : Nat), .int .i64 (y : Nat)] (.slice (some ⟨wr.heap.size, 0, none⟩) 1 1) (by rfl) (by rfl) (HS.out.1.alloc _) (Src.oneSym wr S F y 1 159) (by omega) (by omega) ?_
             intro A3 c3 w3 hrow2 honly2 hlies2
             have H3 : Hid (SyMade w A3 (j + 1) c3 (lfirst (j + 1)) w3) := Lib.hid (HS.out.append (by rw [← lfirst_snoc, ← sys_snoc, HR.out]; exact hrow2) honly2 hlies2)
             clear hrow2 honly2 hlies2)
          | fail)
        go_loopg [2, 5] p (fun gk v2 i wx => ∃ (k f : Nat), i = .int .i64 k ∧ v2 = .int .i64 f ∧ F + k = f ∧ k + gk ≤ p ∧ p ≤ k + gk ∧ wx = w3)
        case atStart => exact ⟨0, F, rfl, rfl, by omega, by omega, by omega, rfl⟩
        case round =>
          obtain ⟨k, f, rfl, rfl, hf, hk1, hk2, rfl⟩ := hrel
          by_cases hkp : k < p
          · go_wp2_with (go_at_call 113; refine (power y _ (by omega)).mono ?_; rintro e w' ⟨rfl, rfl⟩; rw [HP.out])
            go_roundg (gk - 1)
            case measure => omega
            case rel => exact ⟨k + 1, f + 1, by go_num, by go_num, by omega, by omega, by omega, rfl⟩
          · obtain rfl : k = p := by omega
            go_wp2_with (go_at_call 113; refine (power y _ (by omega)).mono ?_; rintro e w' ⟨rfl, rfl⟩; rw [HP.out])
            go_roundg (gO - 1)
            case measure => omega
            case rel => exact ⟨j + 1, S + 1, F + k, A3, c3, by go_num, by rw [hf], rfl, by omega, by omega, by omega, by omega, HF2, H3⟩
    · obtain rfl : j = 28 := by omega
      obtain rfl : S = 285 := by omega
      go_upto_region 14 with fail
      go_wp2_with (at_builtin
                   refine wpList_append_rs rfl (.tmp 30) (.tmp 32) 141 141 159 rfl Tryz.underlying141 info102 zero51 A 28 c (sys (lfirst 28)) [.int .i64 (285 : Nat), .int .i64 (258 : Nat), .int .i64 (0 : Nat)] (.slice (some ⟨wr.heap.size, 0, none⟩) 1 1) (by rfl) (by rfl) (HS.out.1.alloc _) (Src.oneSym wr 285 258 0 1 159) (by omega) (by omega) ?_
                   intro A3 c3 w3 hrow2 honly2 hlies2
                   have H3 : Hid (SyMade w A3 29 c3 lrows w3) := Lib.hid (HS.out.append (by rw [lrows, ← sys_snoc]; exact hrow2) honly2 hlies2)
                   clear hrow2 honly2 hlies2)
      go_ret
      exact ⟨A3, c3, rfl, H3.out⟩
end Go.Proofs.YtjlkjebmilfgoaaGreat

/- Layer 7: which row says a number, and what a symbol says, by the document. -/
namespace Go.Proofs.YtjlkjebmilfgoaaGreat
open Go.RowKit

def FindPost (w : World) (s b : Nat) (m : Int) (e : Ending) (w' : World) : Prop := e = .returned (.tuple #[.int .i64 (s : Nat), .int .i64 (b : Nat), .int .i64 m]) ∧ Only (fun _ => False) w w'
theorem at_some {α : Type} (R : List α) (j n : Nat) (hn : R.length = n) (hj : j < n) : ∃ q, R[j]? = some q := ⟨R[j]'(by omega), by simp [hn, hj]⟩

set_option maxHeartbeats 4000000 in
theorem rfind (A : Option Addr) (n c B : Nat) (R : List Sy) (x : Int) (w : World) (i0 : Nat) (r : Sy) (h : See w B A (sys R)) (hn : R.length = n) (h30 : n ≤ 30) (hi : R[i0]? = some r) (hle : (r.f : Int) ≤ x) (hx : x ≤ 100000) (hgt : ∀ (j : Nat) (q : Sy), i0 < j → R[j]? = some q → x < q.f) :
    Calls Tryz.prog 92 #[.slice A n c, .int .i64 x] w (FindPost w r.s r.b (x - r.f)) := by
  obtain ⟨rs, rf, rb⟩ := r
  simp only at hle ⊢
  have hi0 : i0 < n := by
    rcases Nat.lt_or_ge i0 n with h1 | h1
    · exact h1
    · rw [List.getElem?_eq_none (by omega)] at hi; cases hi
  have HS := Lib.hid h
  have HN := Lib.hid hn
  have HI := Lib.hid hi
  have HG := Lib.hid hgt
  clear h hn hi hgt
  go_enter Tryz.func92, Tryz.ntmps92
  go_wp2_with fail
  go_loopg [7, 8] n (fun gk v7 i wx => ∃ (j a : Nat), i = .int .i64 j ∧ v7 = .int .i64 a ∧ j + gk ≤ n ∧ n ≤ j + gk ∧ a < n ∧ Hid (i0 < j → a = i0) ∧ wx = w)
  case atStart => exact ⟨0, 0, rfl, rfl, by omega, by omega, by omega, Lib.hid (fun h => by omega), rfl⟩
  case round =>
    obtain ⟨j, a, rfl, rfl, hg1, hg2, ha, HA, rfl⟩ := hrel
    by_cases hlt : j < n
    · obtain ⟨q, hq⟩ := at_some R j n HN.out hlt
      obtain ⟨b0, off, rfl, _, _, c1, _⟩ := HS.out.sym j q hq
      obtain ⟨qs, qf, qb⟩ := q
      simp only at c1
      have HQ := Lib.hid hq
      clear hq
      by_cases hf : (qf : Int) ≤ x
      · have HA2 : Hid (i0 < j + 1 → j = i0) := Lib.hid (fun h => by
          rcases Nat.lt_or_ge i0 j with h1 | h1
          · have := HG.out j _ h1 HQ.out
            simp only at this
            omega
          · omega)
        go_wp2
        go_roundg (gk - 1)
        case measure => omega
        case rel => exact ⟨j + 1, j, by go_num, rfl, by omega, by omega, by omega, HA2, rfl⟩
      · have HA2 : Hid (i0 < j + 1 → a = i0) := Lib.hid (fun h => by
          rcases Nat.lt_or_ge i0 j with h1 | h1
          · exact HA.out h1
          · obtain rfl : i0 = j := by omega
            have e := HI.out.symm.trans HQ.out
            simp only [Option.some.injEq, Sy.mk.injEq] at e
            omega)
        go_wp2
        go_roundg (gk - 1)
        case measure => omega
        case rel => exact ⟨j + 1, a, by go_num, rfl, by omega, by omega, by omega, HA2, rfl⟩
    · obtain rfl : a = i0 := HA.out (by omega)
      obtain ⟨b0, off, rfl, _, c0, c1, c2⟩ := HS.out.sym a _ HI.out
      simp only at c0 c1 c2
      go_wp2_with fail
      go_quiet (fail)
      go_wp2
      go_ret3
      exact ⟨by simp, (Only.refl _ _).drewN _⟩

def SofPost (w : World) (r : Int) (ok : Bool) (e : Ending) (w' : World) : Prop := e = .returned (.tuple #[.int .i64 r, .bool ok]) ∧ w' = w

set_option maxHeartbeats 4000000 in
theorem rof_yes (A : Option Addr) (n c B : Nat) (R : List Sy) (m : Nat) (w : World) (i0 : Nat) (r : Sy) (h : See w B A (sys R)) (hn : R.length = n) (h30 : n ≤ 30) (hi : R[i0]? = some r) (hb : r.b ≤ 15) (hf : r.f ≤ 100000) (hs : r.s ≤ 1000) (hm : m < 2 ^ r.b) (hne : ∀ (j : Nat) (q : Sy), j < i0 → R[j]? = some q → q.s ≠ r.s) :
    Calls Tryz.prog 131 #[.slice A n c, .int .i64 (r.s : Nat), .int .i64 m] w (SofPost w ((r.f + m : Nat) : Int) true) := by
  obtain ⟨rs, rf, rb⟩ := r
  simp only at hb hf hs hm hne ⊢
  have hi0 : i0 < n := by
    rcases Nat.lt_or_ge i0 n with h1 | h1
    · exact h1
    · rw [List.getElem?_eq_none (by omega)] at hi; cases hi
  obtain ⟨p, hp⟩ : ∃ p, 2 ^ rb = p := ⟨_, rfl⟩
  have hp15 : p ≤ 32768 := by rw [← hp]; exact Nat.pow_le_pow_right (n := 2) (j := 15) (by decide) hb
  rw [hp] at hm
  have HS := Lib.hid h
  have HN := Lib.hid hn
  have HI := Lib.hid hi
  have HE := Lib.hid hne
  have HP := Lib.hid hp
  clear h hn hi hne hp
  go_enter Tryz.func131, Tryz.ntmps131
  go_wp2_with fail
  go_loopg [8] n (fun gk i wx => ∃ (j : Nat), i = .int .i64 j ∧ j + gk ≤ n ∧ n ≤ j + gk ∧ j ≤ i0 ∧ wx = w)
  case atStart => exact ⟨0, rfl, by omega, by omega, by omega, rfl⟩
  case round =>
    obtain ⟨j, rfl, hg1, hg2, hj, rfl⟩ := hrel
    obtain ⟨q, hq⟩ := at_some R j n HN.out (by omega)
    obtain ⟨b0, off, rfl, _, c0, c1, c2⟩ := HS.out.sym j q hq
    by_cases hlt : j < i0
    · have hne := HE.out j q hlt hq
      obtain ⟨qs, qf, qb⟩ := q
      simp only at c0 c1 c2 hne
      clear hq
      have hne2 : ((qs : Int) == (rs : Int)) = false := by simp; omega
      have hne3 : ¬ (qs : Int) = (rs : Int) := by omega
      go_wp2_with fail
      go_roundg (gk - 1)
      case measure => omega
      case rel => exact ⟨j + 1, by go_num, by omega, by omega, by omega, rfl⟩
    · obtain rfl : j = i0 := by omega
      obtain rfl := Option.some.inj (HI.out.symm.trans hq)
      simp only at c0 c1 c2
      clear hq
      go_wp2_with (go_at_call 113; refine (power rb _ (by omega)).mono ?_; rintro e w' ⟨rfl, rfl⟩; rw [HP.out])
      go_ret2
      exact ⟨by simp, rfl⟩

set_option maxHeartbeats 4000000 in
theorem rof_no (A : Option Addr) (n c B : Nat) (R : List Sy) (s m : Int) (w : World) (h : See w B A (sys R)) (hn : R.length = n) (h30 : n ≤ 30) (hb : ∀ (j : Nat) (q : Sy), R[j]? = some q → q.b ≤ 15) (hno : ∀ (j : Nat) (q : Sy), R[j]? = some q → (q.s : Int) ≠ s ∨ m < 0 ∨ (2 ^ q.b : Nat) ≤ m) :
    Calls Tryz.prog 131 #[.slice A n c, .int .i64 s, .int .i64 m] w (SofPost w 0 false) := by
  have HS := Lib.hid h
  have HN := Lib.hid hn
  have HE := Lib.hid hno
  have HB := Lib.hid hb
  clear h hn hno hb
  go_enter Tryz.func131, Tryz.ntmps131
  go_wp2_with fail
  go_loopg [8] n (fun gk i wx => ∃ (j : Nat), i = .int .i64 j ∧ j + gk ≤ n ∧ n ≤ j + gk ∧ wx = w)
  case atStart => exact ⟨0, rfl, by omega, by omega, rfl⟩
  case round =>
    obtain ⟨j, rfl, hg1, hg2, rfl⟩ := hrel
    by_cases hlt : j < n
    · obtain ⟨q, hq⟩ := at_some R j n HN.out hlt
      obtain ⟨b0, off, rfl, _, c0, c1, c2⟩ := HS.out.sym j q hq
      have hno := HE.out j q hq
      have hb := HB.out j q hq
      obtain ⟨qs, qf, qb⟩ := q
      simp only at c0 c1 c2 hno hb
      clear hq
      by_cases hqs : (qs : Int) = s
      · subst hqs
        by_cases hm0 : m < 0
        · clear hno
          have hm1 : ¬ 0 ≤ m := by omega
          go_wp2_with fail
          go_roundg (gk - 1)
          case measure => omega
          case rel => exact ⟨j + 1, by go_num, by omega, by omega, rfl⟩
        · have hm1 : 0 ≤ m := by omega
          obtain ⟨p, hp⟩ : ∃ p, 2 ^ qb = p := ⟨_, rfl⟩
          rw [hp] at hno
          have hm2 : (p : Int) ≤ m := by omega
          have HP := Lib.hid hp
          clear hno hp
          go_wp2_with (go_at_call 113; refine (power qb _ (by omega)).mono ?_; rintro e w' ⟨rfl, rfl⟩; rw [HP.out])
          go_roundg (gk - 1)
          case measure => omega
          case rel => exact ⟨j + 1, by go_num, by omega, by omega, rfl⟩
      · clear hno
        have hne2 : ((qs : Int) == s) = false := by simp [hqs]
        go_wp2_with fail
        go_roundg (gk - 1)
        case measure => omega
        case rel => exact ⟨j + 1, by go_num, by omega, by omega, rfl⟩
    · obtain rfl : j = n := by omega
      go_wp2
      go_ret2
      exact ⟨rfl, rfl⟩
end Go.Proofs.YtjlkjebmilfgoaaGreat

/- Layer 7: the symbols of lengths and distances, and what they say, by the document. -/
namespace Go.Proofs.YtjlkjebmilfgoaaGreat
open Go.RowKit

theorem lrows_length : lrows.length = 29 := by simp [lrows]
theorem drows_length : drows.length = 30 := by simp [drows]
theorem lrows_at (s : Nat) (h : s < 28) : lrows[s]? = some (lrow s) := by
  unfold lrows
  rw [List.getElem?_append_left (by simpa using h)]
  simp [h]
theorem lrows_last : lrows[28]? = some ⟨285, 258, 0⟩ := by
  unfold lrows
  rw [List.getElem?_append_right (by simp)]
  simp
theorem drows_at (s : Nat) (h : s < 30) : drows[s]? = some (drow s) := by simp [drows, h]
theorem lrows_any (j : Nat) (q : Sy) (h : lrows[j]? = some q) : (j < 28 ∧ q = lrow j) ∨ (j = 28 ∧ q = ⟨285, 258, 0⟩) := by
  have hj : j < 29 := by
    rcases Nat.lt_or_ge j 29 with h1 | h1
    · exact h1
    · rw [List.getElem?_eq_none (by rw [lrows_length]; exact h1)] at h; cases h
  rcases Nat.lt_or_ge j 28 with h1 | h1
  · rw [lrows_at j h1] at h
    exact .inl ⟨h1, (Option.some.inj h).symm⟩
  · obtain rfl : j = 28 := by omega
    rw [lrows_last] at h
    exact .inr ⟨rfl, (Option.some.inj h).symm⟩
theorem drows_any (j : Nat) (q : Sy) (h : drows[j]? = some q) : j < 30 ∧ q = drow j := by
  have hj : j < 30 := by
    rcases Nat.lt_or_ge j 30 with h1 | h1
    · exact h1
    · rw [List.getElem?_eq_none (by rw [drows_length]; exact h1)] at h; cases h
  rw [drows_at j hj] at h
  exact ⟨hj, (Option.some.inj h).symm⟩
theorem lf_mono (s : Nat) : ∀ d, lf s ≤ lf (s + d)
  | 0 => Nat.le_refl _
  | d + 1 => Nat.le_trans (lf_mono s d) (by rw [← Nat.add_assoc, lf]; exact Nat.le_add_right _ _)
theorem df_mono (s : Nat) : ∀ d, df s ≤ df (s + d)
  | 0 => Nat.le_refl _
  | d + 1 => Nat.le_trans (df_mono s d) (by rw [← Nat.add_assoc, df]; exact Nat.le_add_right _ _)

set_option maxRecDepth 20000 in
set_option maxHeartbeats 2000000 in
theorem rlength_no (n : Int) (w : World) (h : n < 3 ∨ 258 < n) : Calls Tryz.prog 63 #[.int .i64 n] w (FourPost w 0 0 0 false) := by
  rcases h with h | h
  · go_enter Tryz.func63, Tryz.ntmps63
    go_wp2_with fail
    (try simp only [Exit.inBlock, Exit.then]); refine bodyPost_ret (results_slots [2, 3, 4, 5] (by decide) rfl) rfl ?_
    exact ⟨rfl, Only.refl _ _⟩
  · have h2 : ¬ n < 3 := by omega
    go_enter Tryz.func63, Tryz.ntmps63
    go_wp2_with fail
    (try simp only [Exit.inBlock, Exit.then]); refine bodyPost_ret (results_slots [2, 3, 4, 5] (by decide) rfl) rfl ?_
    exact ⟨rfl, Only.refl _ _⟩
set_option maxRecDepth 20000 in
set_option maxHeartbeats 2000000 in
theorem rlength_yes (n : Int) (w : World) (i0 : Nat) (r : Sy) (h1 : 3 ≤ n) (h2 : n ≤ 258) (hi : lrows[i0]? = some r) (hle : (r.f : Int) ≤ n) (hgt : ∀ (j : Nat) (q : Sy), i0 < j → lrows[j]? = some q → n < q.f) : Calls Tryz.prog 63 #[.int .i64 n] w (FourPost w (r.s : Nat) (r.b : Nat) (n - r.f) true) := by
  obtain ⟨x, hx⟩ : ∃ x, n - (r.f : Int) = x := ⟨_, rfl⟩
  have HF : Hid (∀ (A : Option Addr) (c B : Nat) (w : World), See w B A (sys lrows) → Calls Tryz.prog 92 #[.slice A 29 c, .int .i64 n] w (FindPost w r.s r.b x)) := Lib.hid fun A c B w hs => hx ▸ rfind A 29 c B lrows n w i0 r hs lrows_length (by decide) hi hle (by omega) hgt
  rw [hx]
  obtain ⟨rs, rf, rb⟩ := r
  simp only at HF ⊢
  clear hi hle hgt hx
  go_enter Tryz.func63, Tryz.ntmps63
  go_wp2_with (first
    | (go_at_call 93; refine (rlengths _).mono ?_; rintro e w2 ⟨A, c, rfl, hm⟩; have HM := Lib.hid hm; clear hm)
    | (go_at_call 92; refine (HF.out A c _ w2 HM.out.1.see).mono ?_; rintro e w3 ⟨rfl, ho⟩; have HO := Lib.hid ho; clear ho))
  (try simp only [Exit.inBlock, Exit.then]); refine bodyPost_ret (results_slots [2, 3, 4, 5] (by decide) rfl) rfl ?_
  exact ⟨rfl, HM.out.2.1.trans HO.out⟩
theorem rlength (n a b c : Int) (ok : Bool) (w : World) (h : LenIs n a b c ok) : Calls Tryz.prog 63 #[.int .i64 n] w (FourPost w a b c ok) := by
  cases h with
  | no _ h => exact rlength_no n w h
  | last =>
    exact rlength_yes 258 w 28 ⟨285, 258, 0⟩ (by decide) (by decide) lrows_last (by decide) fun j q hj hq => by
      rcases lrows_any j q hq with ⟨h1, _⟩ | ⟨h1, _⟩ <;> omega
  | row s m hs hm h =>
    have h0 : 3 ≤ lf s := by have := lf_mono 0 s; rw [Nat.zero_add] at this; exact this
    have := rlength_yes ((lf s + m : Nat) : Int) w s (lrow s) (by omega) (by omega) (lrows_at s hs) (by show (lf s : Int) ≤ _; omega) fun j q hj hq => by
      rcases lrows_any j q hq with ⟨h1, rfl⟩ | ⟨h1, rfl⟩
      · show _ < (lf j : Int)
        have h2 := lf_mono (s + 1) (j - (s + 1))
        rw [show s + 1 + (j - (s + 1)) = j from by omega, lf] at h2
        omega
      · show _ < ((258 : Nat) : Int)
        omega
    rw [show ((lf s + m : Nat) : Int) - ((lrow s).f : Int) = (m : Int) from by show ((lf s + m : Nat) : Int) - (lf s : Int) = (m : Int); omega] at this
    exact this

set_option maxRecDepth 20000 in
set_option maxHeartbeats 2000000 in
theorem rdistance_no (n : Int) (w : World) (h : n < 1 ∨ 32768 < n) : Calls Tryz.prog 64 #[.int .i64 n] w (FourPost w 0 0 0 false) := by
  rcases h with h | h
  · go_enter Tryz.func64, Tryz.ntmps64
    go_wp2_with fail
    (try simp only [Exit.inBlock, Exit.then]); refine bodyPost_ret (results_slots [2, 3, 4, 5] (by decide) rfl) rfl ?_
    exact ⟨rfl, Only.refl _ _⟩
  · have h2 : ¬ n < 1 := by omega
    go_enter Tryz.func64, Tryz.ntmps64
    go_wp2_with fail
    (try simp only [Exit.inBlock, Exit.then]); refine bodyPost_ret (results_slots [2, 3, 4, 5] (by decide) rfl) rfl ?_
    exact ⟨rfl, Only.refl _ _⟩
set_option maxRecDepth 20000 in
set_option maxHeartbeats 2000000 in
theorem rdistance_yes (n : Int) (w : World) (i0 : Nat) (r : Sy) (h1 : 1 ≤ n) (h2 : n ≤ 32768) (hi : drows[i0]? = some r) (hle : (r.f : Int) ≤ n) (hgt : ∀ (j : Nat) (q : Sy), i0 < j → drows[j]? = some q → n < q.f) : Calls Tryz.prog 64 #[.int .i64 n] w (FourPost w (r.s : Nat) (r.b : Nat) (n - r.f) true) := by
  obtain ⟨x, hx⟩ : ∃ x, n - (r.f : Int) = x := ⟨_, rfl⟩
  have HF : Hid (∀ (A : Option Addr) (c B : Nat) (w : World), See w B A (sys drows) → Calls Tryz.prog 92 #[.slice A 30 c, .int .i64 n] w (FindPost w r.s r.b x)) := Lib.hid fun A c B w hs => hx ▸ rfind A 30 c B drows n w i0 r hs drows_length (by decide) hi hle (by omega) hgt
  rw [hx]
  obtain ⟨rs, rf, rb⟩ := r
  simp only at HF ⊢
  clear hi hle hgt hx
  go_enter Tryz.func64, Tryz.ntmps64
  go_wp2_with (first
    | (go_at_call 94; refine (rdistances _).mono ?_; rintro e w2 ⟨A, c, rfl, hm⟩; have HM := Lib.hid hm; clear hm)
    | (go_at_call 92; refine (HF.out A c _ w2 HM.out.1.see).mono ?_; rintro e w3 ⟨rfl, ho⟩; have HO := Lib.hid ho; clear ho))
  (try simp only [Exit.inBlock, Exit.then]); refine bodyPost_ret (results_slots [2, 3, 4, 5] (by decide) rfl) rfl ?_
  exact ⟨rfl, HM.out.2.1.trans HO.out⟩
theorem rdistance (n a b c : Int) (ok : Bool) (w : World) (h : DistIs n a b c ok) : Calls Tryz.prog 64 #[.int .i64 n] w (FourPost w a b c ok) := by
  cases h with
  | no _ h => exact rdistance_no n w h
  | row s m hs hm =>
    have h0 : 1 ≤ df s := by have := df_mono 0 s; rw [Nat.zero_add] at this; exact this
    have ht := df_top ⟨s, hs⟩
    simp only at ht
    have := rdistance_yes ((df s + m : Nat) : Int) w s (drow s) (by omega) (by omega) (drows_at s hs) (by show (df s : Int) ≤ _; omega) fun j q hj hq => by
      obtain ⟨h1, rfl⟩ := drows_any j q hq
      show _ < (df j : Int)
      have h2 := df_mono (s + 1) (j - (s + 1))
      rw [show s + 1 + (j - (s + 1)) = j from by omega, df] at h2
      omega
    rw [show ((df s + m : Nat) : Int) - ((drow s).f : Int) = (m : Int) from by show ((df s + m : Nat) : Int) - (df s : Int) = (m : Int); omega] at this
    exact this

set_option maxRecDepth 20000 in
set_option maxHeartbeats 2000000 in
theorem rlengthOf_any (a c n : Int) (ok : Bool) (w : World) (h : ¬ (a = 284 ∧ c = 31)) (hof : ∀ (A : Option Addr) (k B : Nat) (w : World), See w B A (sys lrows) → Calls Tryz.prog 131 #[.slice A 29 k, .int .i64 a, .int .i64 c] w (SofPost w n ok)) : Calls Tryz.prog 117 #[.int .i64 a, .int .i64 c] w (TwoPost w n ok) := by
  have HF := Lib.hid hof
  clear hof
  by_cases h1 : a = 284
  · have h2 : ¬ c = 31 := fun e => h ⟨h1, e⟩
    have h3 : (c == 31) = false := by simp [h2]
    subst h1
    clear h
    go_enter Tryz.func117, Tryz.ntmps117
    go_wp2_with (first
      | (go_at_call 93; refine (rlengths _).mono ?_; rintro e w2 ⟨A, k, rfl, hm⟩; have HM := Lib.hid hm; clear hm)
      | (go_at_call 131; refine (HF.out A k _ w2 HM.out.1.see).mono ?_; rintro e w3 ⟨rfl, rfl⟩))
    go_ret2
    exact ⟨rfl, HM.out.2.1⟩
  · have h3 : (a == 284) = false := by simp [h1]
    clear h
    go_enter Tryz.func117, Tryz.ntmps117
    go_wp2_with (first
      | (go_at_call 93; refine (rlengths _).mono ?_; rintro e w2 ⟨A, k, rfl, hm⟩; have HM := Lib.hid hm; clear hm)
      | (go_at_call 131; refine (HF.out A k _ w2 HM.out.1.see).mono ?_; rintro e w3 ⟨rfl, rfl⟩))
    go_ret2
    exact ⟨rfl, HM.out.2.1⟩
set_option maxRecDepth 20000 in
set_option maxHeartbeats 2000000 in
theorem rlengthOf_284 (w : World) : Calls Tryz.prog 117 #[.int .i64 284, .int .i64 31] w (TwoPost w 0 false) := by
  go_enter Tryz.func117, Tryz.ntmps117
  go_wp2_with fail
  go_ret2
  exact ⟨rfl, Only.refl _ _⟩
theorem lb15 (s : Nat) (h : s < 28) : lb s ≤ 15 := Nat.le_trans (lb_le s h) (by decide)
theorem db15 (s : Nat) (h : s < 30) : db s ≤ 15 := Nat.le_trans (db_le s h) (by decide)
theorem lrows_bits (j : Nat) (q : Sy) (h : lrows[j]? = some q) : q.b ≤ 15 := by
  rcases lrows_any j q h with ⟨h1, rfl⟩ | ⟨h1, rfl⟩
  · exact lb15 j h1
  · exact Nat.zero_le _
theorem drows_bits (j : Nat) (q : Sy) (h : drows[j]? = some q) : q.b ≤ 15 := by
  obtain ⟨h1, rfl⟩ := drows_any j q h
  exact db15 j h1
theorem rlengthOf (a c n : Int) (ok : Bool) (w : World) (h : LofIs a c n ok) : Calls Tryz.prog 117 #[.int .i64 a, .int .i64 c] w (TwoPost w n ok) := by
  cases h with
  | out _ _ h =>
    refine rlengthOf_any a c 0 false w (by omega) fun A k B w hs => rof_no A 29 k B lrows a c w hs lrows_length (by decide) lrows_bits fun j q hq => .inl ?_
    rcases lrows_any j q hq with ⟨h1, rfl⟩ | ⟨h1, rfl⟩
    · show ((257 + j : Nat) : Int) ≠ a
      omega
    · show ((285 : Nat) : Int) ≠ a
      omega
  | last =>
    refine rlengthOf_any 285 0 258 true w (by omega) fun A k B w hs => rof_yes A 29 k B lrows 0 w 28 ⟨285, 258, 0⟩ hs lrows_length (by decide) lrows_last (by decide) (by decide) (by decide) (by decide) fun j q hj hq => ?_
    rcases lrows_any j q hq with ⟨h1, rfl⟩ | ⟨h1, rfl⟩
    · show 257 + j ≠ 285
      omega
    · omega
  | lastNo _ h =>
    refine rlengthOf_any 285 c 0 false w (by omega) fun A k B w hs => rof_no A 29 k B lrows 285 c w hs lrows_length (by decide) lrows_bits fun j q hq => ?_
    rcases lrows_any j q hq with ⟨h1, rfl⟩ | ⟨h1, rfl⟩
    · left
      show ((257 + j : Nat) : Int) ≠ 285
      omega
    · right
      show c < 0 ∨ ((2 ^ 0 : Nat) : Int) ≤ c
      omega
  | row s m hs hm h =>
    have h27 : ¬ (((257 + s : Nat) : Int) = 284 ∧ (m : Int) = 31) := by
      rintro ⟨h1, h2⟩
      obtain rfl : s = 27 := by omega
      have e : lf 27 = 227 := by decide +kernel
      omega
    refine rlengthOf_any ((257 + s : Nat) : Int) m _ true w h27 fun A k B w hS => rof_yes A 29 k B lrows m w s (lrow s) hS lrows_length (by decide) (lrows_at s hs) (lb15 s hs) (Nat.le_trans (lf_le s (by omega)) (by decide)) (by show 257 + s ≤ 1000; omega) hm fun j q hj hq => ?_
    rcases lrows_any j q hq with ⟨h1, rfl⟩ | ⟨h1, rfl⟩
    · show 257 + j ≠ 257 + s
      omega
    · omega
  | rowNo s _ hs h =>
    have h27 : ¬ (((257 + s : Nat) : Int) = 284 ∧ c = 31) := by
      rintro ⟨h1, h2⟩
      obtain rfl : s = 27 := by omega
      have e : lb 27 = 5 := by decide +kernel
      rw [e] at h
      omega
    refine rlengthOf_any ((257 + s : Nat) : Int) c 0 false w h27 fun A k B w hS => rof_no A 29 k B lrows _ c w hS lrows_length (by decide) lrows_bits fun j q hq => ?_
    rcases lrows_any j q hq with ⟨h1, rfl⟩ | ⟨h1, rfl⟩
    · by_cases e : j = s
      · subst e
        exact .inr h
      · left
        show ((257 + j : Nat) : Int) ≠ ((257 + s : Nat) : Int)
        omega
    · left
      show ((285 : Nat) : Int) ≠ ((257 + s : Nat) : Int)
      omega
  | row284 => exact rlengthOf_284 w

set_option maxHeartbeats 2000000 in
theorem rdistanceOf_any (a c n : Int) (ok : Bool) (w : World) (hof : ∀ (A : Option Addr) (k B : Nat) (w : World), See w B A (sys drows) → Calls Tryz.prog 131 #[.slice A 30 k, .int .i64 a, .int .i64 c] w (SofPost w n ok)) : Calls Tryz.prog 119 #[.int .i64 a, .int .i64 c] w (TwoPost w n ok) := by
  have HF := Lib.hid hof
  clear hof
  go_enter Tryz.func119, Tryz.ntmps119
  go_wp2_with (first
    | (go_at_call 94; refine (rdistances _).mono ?_; rintro e w2 ⟨A, k, rfl, hm⟩; have HM := Lib.hid hm; clear hm)
    | (go_at_call 131; refine (HF.out A k _ w2 HM.out.1.see).mono ?_; rintro e w3 ⟨rfl, rfl⟩))
  go_ret2
  exact ⟨rfl, HM.out.2.1⟩
theorem rdistanceOf (a c n : Int) (ok : Bool) (w : World) (h : DofIs a c n ok) : Calls Tryz.prog 119 #[.int .i64 a, .int .i64 c] w (TwoPost w n ok) := by
  cases h with
  | out _ _ h =>
    refine rdistanceOf_any a c 0 false w fun A k B w hs => rof_no A 30 k B drows a c w hs drows_length (by decide) drows_bits fun j q hq => .inl ?_
    obtain ⟨h1, rfl⟩ := drows_any j q hq
    show ((j : Nat) : Int) ≠ a
    omega
  | row s m hs hm =>
    refine rdistanceOf_any s m _ true w fun A k B w hS => rof_yes A 30 k B drows m w s (drow s) hS drows_length (by decide) (drows_at s hs) (db15 s hs) (Nat.le_trans (df_le s (by omega)) (by decide)) (by show s ≤ 1000; omega) hm fun j q hj hq => ?_
    obtain ⟨h1, rfl⟩ := drows_any j q hq
    show j ≠ s
    omega
  | rowNo s _ hs h =>
    refine rdistanceOf_any s c 0 false w fun A k B w hS => rof_no A 30 k B drows _ c w hS drows_length (by decide) drows_bits fun j q hq => ?_
    obtain ⟨h1, rfl⟩ := drows_any j q hq
    by_cases e : j = s
    · subst e
      exact .inr h
    · left
      show ((j : Nat) : Int) ≠ ((s : Nat) : Int)
      omega
end Go.Proofs.YtjlkjebmilfgoaaGreat
