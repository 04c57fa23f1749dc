/- A number repeated; a heap in plain words. -/
import Derived.Test.YtjlkjebmilfgoaaGreatM5
import Derived.Test.YtjlkjebmilfgoaaGreatTShelf
import Derived.Laws.IdiomCopy
import Derived.Lib.SlBuf
/- Rows of one number, many times (slices.Repeat), as the library makes them. -/
namespace Go.Proofs.YtjlkjebmilfgoaaGreat
open Go.RowKit

/-- An operation that alone may come, with a value, and another world. -/
theorem Steps.alone {P : Program} {ops : Array Oper} {Q : Exit → Act → World → Prop} {S : World → Prop} {i : Nat} {l : List (Bool × Nat)} {a : Act} {w w' : World} {d : Option Tmp} {op : Op} {ty : TypeId} {pos : String} {af : Array Edge} (v : Value) (ho : ops[i]? = some ⟨d, op, ty, pos, af, none⟩)
    (hr : (execOp a.eval ⟨d, op, ty, pos, af, none⟩).run P w = .ok (.value v) w') (hS : S w') (h : Steps P ops Q S l (a.put d v) w') : Steps P ops Q S ((false, i) :: l) a w := by
  refine wpOp_step ho fun K hK => ?_
  rw [if_pos (by rfl)]
  unfold Oper.wp
  rw [hr, Oper.upon_value]
  exact hK _ _ ⟨hS, h⟩

theorem exec_copy {P : Program} {o : Oper} {a : Act} {w w' : World} {t t' : TypeId} {u v r : Value} (x y : Operand) (ho : o.op = .call { callee := .builtin .copy, args := #[x, y], argTypes := #[t, t'] }) (hx : a.eval x = u) (hy : a.eval y = v) (hr : (Builtin.copy_ #[t, t'] o.type #[u, v]).run P w = .ok r w') : (execOp a.eval o).run P w = .ok (.value r) w' := by
  unfold execOp
  simp only [ho, resolve, invoke, builtin, Sem.run_bind, Sem.run_pure, Result.andThen_ok, List.map_toArray, List.map_cons, List.map_nil, hx, hy, hr]
theorem exec_append {P : Program} {o : Oper} {a : Act} {w w' : World} {t t' : TypeId} {u v r : Value} (x y : Operand) (ho : o.op = .call { callee := .builtin .append, args := #[x, y], argTypes := #[t, t'] }) (hx : a.eval x = u) (hy : a.eval y = v) (hr : (Builtin.append_ #[t, t'] o.type #[u, v]).run P w = .ok r w') : (execOp a.eval o).run P w = .ok (.value r) w' := by
  unfold execOp
  simp only [ho, resolve, invoke, builtin, Sem.run_bind, Sem.run_pure, Result.andThen_ok, List.map_toArray, List.map_cons, List.map_nil, hx, hy, hr]
theorem Is.cells {w : World} {g : Nat} {t : TypeId} {cs : List Value} (h : Is w g t cs) (o : Nat) (vs : List Value) : ∀ (pre : List Value), pre.length = o → ∀ post, cs = pre ++ post → vs.length ≤ post.length → Is (w.setCells g o vs) g t (pre ++ vs ++ post.drop vs.length) := by
  induction vs generalizing w cs o with
  | nil =>
    intro pre hp post hc _
    simpa [World.setCells, ← hc] using h
  | cons v r ih =>
    intro pre hp post hc hl
    cases post with
    | nil => simp at hl
    | cons y z =>
      have h1 := h.set o v
      have e : cs.set o v = (pre ++ [v]) ++ z := by
        rw [hc, ← hp, List.set_append_right _ _ (Nat.le_refl _), Nat.sub_self]
        simp
      have := ih h1 (o + 1) (pre ++ [v]) (by simp [hp]) z e (by simpa using hl)
      simpa [World.setCells] using this

theorem rep_grow (v : Value) (m k j : Nat) (z : Value) : List.replicate m v ++ List.replicate j v ++ (List.replicate (k - m) z).drop (List.replicate j v).length = List.replicate (m + j) v ++ List.replicate (k - (m + j)) z := by
  rw [List.length_replicate, List.drop_replicate, List.replicate_append_replicate, show k - m - j = k - (m + j) from by omega]

def RepPost (w : World) (v k : Nat) (e : Ending) (w' : World) : Prop := ∃ g, e = .returned (.slice (some ⟨g, 0, none⟩) k k) ∧ Made 3 w (some ⟨g, 0, none⟩) k k (ints (List.replicate k v)) w'

set_option maxRecDepth 20000 in
set_option maxHeartbeats 2000000 in
theorem repeated (g v k : Nat) (w : World) (h : w.cell? ⟨g, 0, none⟩ = some (.int .i64 v)) (hk1 : 1 ≤ k) (hk2 : k ≤ 300) : Calls Tryz.prog 71 #[.slice (some ⟨g, 0, none⟩) 1 1, .int .i64 k] w (RepPost w v k) := by
  have HMul := Lib.hid (Tryz.bits_Mul 1 k (by decide) (by omega) w)
  rw [show 1 * k / 18446744073709551616 = 0 from by omega, show 1 * k % 18446744073709551616 = k from by omega] at HMul
  have hmk := run_make_row (P := Tryz.prog) Tryz.underlying44 info3 (by decide) k (by omega) w
  have hst : Is (w.alloc (.cells (List.replicate k (Value.int .i64 0)).toArray 3)) w.heap.size 3 (List.replicate k (.int .i64 0)) := Is.new w 3 _
  have hon : Only (fun _ => False) w (w.alloc (.cells (List.replicate k (Value.int .i64 0)).toArray 3)) := (Only.refl _ w).alloc _
  have hx : (w.alloc (.cells (List.replicate k (Value.int .i64 0)).toArray 3)).cell? ⟨g, 0, none⟩ = some (.int .i64 v) := (World.cell?_of_block (hon.block g (cell_lt h) fun f => f)).trans h
  obtain ⟨wa, hwa⟩ : ∃ wa, w.alloc (.cells (List.replicate k (Value.int .i64 0)).toArray 3) = wa := ⟨_, rfl⟩
  rw [hwa] at hmk hst hon hx
  obtain ⟨G, hG⟩ : ∃ G, w.heap.size = G := ⟨_, rfl⟩
  rw [hG] at hmk hst
  have hgG : G ≤ wa.heap.size := by rw [← hG]; exact hon.size
  have hcp := run_copy_cells (P := Tryz.prog) wa 44 44 3 3 G 0 k k ⟨g, 0, none⟩ 1 1 [.int .i64 v] Tryz.underlying44 (by kernel_rfl) (by show 1 = min 1 k; omega)
    (by intro j u hj; match j, hj with | 0, hj => (simp at hj; subst hj; exact hx))
    (by intro j hj; obtain rfl : j = 0 := by simpa using hj
        have e := hst.cell 0 (v := .int .i64 0) (by rw [List.getElem?_replicate, if_pos (by omega)]); rw [e]; rfl)
    (by intro j hj; exact hst.frozen _) (by simp [Value.oneCell'])
  have hgo : goInt [Value.int IntKind.i64 (v : Int)].length = .int .i64 1 := rfl
  rw [hgo] at hcp
  have hst2 : Is (wa.setCells G 0 [.int .i64 v]) G 3 (List.replicate 1 (.int .i64 v) ++ List.replicate (k - 1) (.int .i64 0)) := by
    have := hst.cells 0 [.int .i64 (v : Int)] [] rfl _ rfl (by simp; omega)
    simpa using this
  have hon2 : Only (fun _ => False) w (wa.setCells G 0 [.int .i64 v]) := hon.andThen (setCells_only G _ 0 wa) fun j hj => .inr (by omega)
  obtain ⟨wb, hwb⟩ : ∃ wb, wa.setCells G 0 [.int .i64 (v : Int)] = wb := ⟨_, rfl⟩
  rw [hwb] at hcp hst2 hon2
  have HI := Lib.hid hst2
  have HO := Lib.hid hon2
  have HG := Lib.hid hG
  have hk3 : ¬ (k : Int) < 0 := by omega
  clear hwb hwa hst hon hst2 hon2 hx h hgG hgo
  go_enter Tryz.func71, Tryz.ntmps71
  go_wp2_with fail
  refine HMul.out.mono ?_
  rintro e w ⟨rfl, rfl⟩
  clear HMul
  go_wp2_with (at_builtin; refine Lib.wpList_copy_run _ rfl _ _ 44 44 rfl _ _ rfl rfl hcp ?_)
  go_loopg [8] k (fun gk n wx => ∃ m : Nat, n = .int .i64 m ∧ 1 ≤ m ∧ m ≤ k ∧ k ≤ m + gk ∧ Hid (Is wx G 3 (List.replicate m (.int .i64 v) ++ List.replicate (k - m) (.int .i64 0))) ∧ Hid (Only (fun _ => False) w wx))
  case atStart => exact ⟨1, rfl, by omega, hk1, by omega, HI, HO⟩
  case round =>
    clear HI HO hcp hmk
    obtain ⟨m, rfl, hm1, hm2, hm3, HI, HO⟩ := hrel
    by_cases hlt : m < k
    · obtain ⟨j, hj⟩ : ∃ j, min m (k - m) = j := ⟨_, rfl⟩
      have hj1 : 1 ≤ j := by omega
      have hj2 : m + j ≤ k := by omega
      have hcp := run_copy_cells (P := Tryz.prog) wr.drew 44 44 3 3 G m (k - m) (k - m) ⟨G, 0, none⟩ m k (List.replicate j (.int .i64 v)) Tryz.underlying44 (by kernel_rfl) (by rw [List.length_replicate]; show j = min m (k - m); omega)
        (by intro i u hi
            rw [List.getElem?_replicate] at hi
            split at hi
            · rename_i hij
              obtain rfl := Option.some.inj hi
              have := HI.out.drew.cell i (v := .int .i64 v) (by rw [List.getElem?_append_left (by simp; omega), List.getElem?_replicate, if_pos (by omega)])
              rw [Addr.add_lit, Nat.zero_add]
              exact this
            · cases hi)
        (by intro i hi
            rw [List.length_replicate] at hi
            have e := HI.out.drew.cell (m + i) (v := .int .i64 0) (by rw [List.getElem?_append_right (by simp), List.getElem?_replicate, if_pos (by simp; omega)])
            rw [e]; rfl)
        (by intro i _; exact HI.out.frozen _) (by simp [Value.oneCell'])
      have hgo : goInt (List.replicate j (Value.int .i64 v)).length = .int .i64 j := by rw [List.length_replicate]; rfl
      rw [hgo] at hcp
      have hI2 : Is (wr.drew.setCells G m (List.replicate j (.int .i64 v))) G 3 (List.replicate (m + j) (.int .i64 v) ++ List.replicate (k - (m + j)) (.int .i64 0)) := by
        have := HI.out.drew.cells m (List.replicate j (.int .i64 (v : Int))) _ (by simp) _ rfl (by simp; omega)
        rw [rep_grow] at this
        exact this
      have hO2 : Only (fun _ => False) w (wr.drew.setCells G m (List.replicate j (.int .i64 v))) := HO.out.drew.andThen (setCells_only G _ m _) fun i hi => .inr (by rw [HG.out]; omega)
      have HI2 := Lib.hid hI2
      have HO2 := Lib.hid hO2
      have e1 : (k : Int) - (m : Int) = ((k - m : Nat) : Int) := by omega
      clear hI2 hO2 hgo HI HO
      obtain ⟨q, hq⟩ : ∃ q, k - m = q := ⟨_, rfl⟩
      rw [hq] at hcp e1
      go_wp2_with fail
      refine Steps.region (fun _ => True) [(true, 0), (true, 1), (true, 2), (true, 3), (true, 4), (true, 5), (true, 6), (false, 7), (true, 8), (true, 9)] (by kernel_rfl) (by kernel_rfl) rfl (by kernel_rfl) (fun _ _ d _ _ h => by cases d <;> exact h) ?_
      refine Steps.take (.int .i64 m) rfl trivial (fun _ _ => by kernel_rfl) ?_
      simp only [Act.put, List.setIfInBounds_toArray, List.set_cons_succ, List.set_cons_zero]
      refine Steps.take (.slice (some ⟨G, 0, none⟩) k k) rfl trivial (fun _ _ => by kernel_rfl) ?_
      simp only [Act.put, List.setIfInBounds_toArray, List.set_cons_succ, List.set_cons_zero]
      refine Steps.take (.int .i64 m) rfl trivial (fun _ _ => by kernel_rfl) ?_
      simp only [Act.put, List.setIfInBounds_toArray, List.set_cons_succ, List.set_cons_zero]
      refine Steps.take (.slice (some ⟨G, m, none⟩) q q) rfl trivial (fun _ _ => by go_simp; first | done | omega) ?_
      simp only [Act.put, List.setIfInBounds_toArray, List.set_cons_succ, List.set_cons_zero]
      refine Steps.take (.slice (some ⟨G, 0, none⟩) k k) rfl trivial (fun _ _ => by kernel_rfl) ?_
      simp only [Act.put, List.setIfInBounds_toArray, List.set_cons_succ, List.set_cons_zero]
      refine Steps.take (.int .i64 m) rfl trivial (fun _ _ => by kernel_rfl) ?_
      simp only [Act.put, List.setIfInBounds_toArray, List.set_cons_succ, List.set_cons_zero]
      refine Steps.take (.slice (some ⟨G, 0, none⟩) m k) rfl trivial (fun _ _ => by go_simp) ?_
      simp only [Act.put, List.setIfInBounds_toArray, List.set_cons_succ, List.set_cons_zero]
      refine Steps.alone (w' := wr.drew.setCells G m (List.replicate j (.int .i64 v))) (.int .i64 j) rfl (exec_copy (.tmp 41) (.tmp 44) rfl rfl rfl hcp) trivial ?_
      simp only [Act.put, List.setIfInBounds_toArray, List.set_cons_succ, List.set_cons_zero]
      refine Steps.take (.int .i64 (m + j : Nat)) rfl trivial (fun _ _ => by go_simp; exact IntWalk.i64_in _ (by omega)) ?_
      simp only [Act.put, List.setIfInBounds_toArray, List.set_cons_succ, List.set_cons_zero]
      refine Steps.take (.int .i64 (m + j : Nat)) rfl trivial (fun _ _ => by kernel_rfl) ?_
      simp only [Act.put, List.setIfInBounds_toArray, List.set_cons_succ, List.set_cons_zero]
      show wpList _ _ _ _ _ _
      go_wp2_with fail
      go_roundg (gk - j)
      case measure => omega
      case rel => exact ⟨m + j, rfl, by omega, hj2, by omega, HI2, HO2⟩
    · obtain rfl : m = k := by omega
      have hI := HI.out
      rw [Nat.sub_self, List.replicate_zero, List.append_nil] at hI
      have HI2 := Lib.hid hI
      clear hI HI
      go_wp2
      go_ret
      refine ⟨G, rfl, ?_⟩
      have hm : Made 3 w (some ⟨w.heap.size, 0, none⟩) m m (List.replicate m (.int .i64 v)) wr := made_is (by rw [HG.out]; exact HI2.out) HO.out (by simp) (by unfold maxLen; omega)
      rw [HG.out] at hm
      have e : ints (List.replicate m v) = List.replicate m (.int .i64 v) := by simp [ints]
      rw [e]
      exact hm
end Go.Proofs.YtjlkjebmilfgoaaGreat

/- A region that draws its order, walked by a tree of orders: as Steps, but where two operations may come, each may come first. Over any program. -/
namespace Go.Proofs.YtjlkjebmilfgoaaGreat
open Go.RowKit

inductive Ord where
  | nil
  | t (i : Nat) (r : Ord)
  | f (i : Nat) (r : Ord)
  | two (i j : Nat) (r1 r2 : Ord)

section
variable {P : Program} {ops : Array Oper} {Q : Exit → Act → World → Prop} {S : World → Prop}
def Walk (P : Program) (ops : Array Oper) (Q : Exit → Act → World → Prop) (S : World → Prop) : Ord → Act → World → Prop
  | .nil, a, w => wpList P ops Q [] a w
  | .t i r, a, w => S w ∧ ∃ o v, ops[i]? = some o ∧ YieldsIf P ops S o v a ∧ Walk P ops Q S r (a.put o.dst v) w
  | .f i r, a, w => wpOp P ops Q i (fun a' w' => S w' ∧ Walk P ops Q S r a' w') a w
  | .two i j r1 r2, a, w => wpOp P ops Q i (fun a' w' => S w' ∧ Walk P ops Q S r1 a' w') a w ∧ wpOp P ops Q j (fun a' w' => S w' ∧ Walk P ops Q S r2 a' w') a w
def okWalk (ops : Array Oper) : Ord → Nat → Array Bool → Bool
  | .nil, 0, listed => (Region.ready .any ops listed).isEmpty
  | .t i r, n + 1, listed => (Region.ready .any ops listed).contains i && Region.free .any ops listed i && okWalk ops r n (listed.setIfInBounds i true)
  | .f i r, n + 1, listed => (Region.ready .any ops listed == [i]) && okWalk ops r n (listed.setIfInBounds i true)
  | .two i j r1 r2, n + 1, listed => (Region.ready .any ops listed == [i, j]) && okWalk ops r1 n (listed.setIfInBounds i true) && okWalk ops r2 n (listed.setIfInBounds j true)
  | _, _, _ => false

theorem Walk.any (hs : Region.noSelect ops = true) (hQ : ∀ c a d v w, Q (.panic c) (Act.put a d v) w → Q (.panic c) a w) : ∀ (l : Ord) (n : Nat) (listed : Array Bool) (a : Act) (w : World),
    okWalk ops l n listed = true → Walk P ops Q S l a w → wpAnyH P .any ops Q S n listed a w
  | .nil, 0, listed, a, w, hB, h => ⟨by simpa [okWalk] using hB, h⟩
  | .t i r, n + 1, listed, a, w, hB, h => by
    obtain ⟨hS, o, v, ho, hy, h⟩ := h
    simp only [okWalk, Bool.and_eq_true] at hB
    exact wpAnyH_take ho hs hB.1.2 hB.1.1 (fun c a w => hQ c a _ v w) hy hS (Walk.any hs hQ r n _ _ _ hB.2 h)
  | .f i r, n + 1, listed, a, w, hB, h => by
    simp only [okWalk, Bool.and_eq_true, beq_iff_eq] at hB
    refine wpAnyH_all hB.1 (by simp) fun j hj => ?_
    obtain rfl : j = i := by simpa using hj
    exact wpOp_mono (fun a' w' h' => ⟨h'.1, Walk.any hs hQ r n _ _ _ hB.2 h'.2⟩) h
  | .two i j r1 r2, n + 1, listed, a, w, hB, h => by
    simp only [okWalk, Bool.and_eq_true, beq_iff_eq] at hB
    refine wpAnyH_all hB.1.1 (by simp) fun k hk => ?_
    obtain rfl | rfl : k = i ∨ k = j := by simpa using hk
    · exact wpOp_mono (fun a' w' h' => ⟨h'.1, Walk.any hs hQ r1 n _ _ _ hB.1.2 h'.2⟩) h.1
    · exact wpOp_mono (fun a' w' h' => ⟨h'.1, Walk.any hs hQ r2 n _ _ _ hB.2 h'.2⟩) h.2
  | .nil, n + 1, _, _, _, hB, _ => by simp [okWalk] at hB
  | .t _ _, 0, _, _, _, hB, _ => by simp [okWalk] at hB
  | .f _ _, 0, _, _, _, hB, _ => by simp [okWalk] at hB
  | .two _ _ _ _, 0, _, _, _, hB, _ => by simp [okWalk] at hB

theorem Walk.region {id : Nat} {a : Act} {w : World} (S : World → Prop) (l : Ord) (hm : P.follows .mixedOrders = true) (hs : Region.noSelect ops = true)
    (hB : okWalk ops l ops.size (Array.replicate ops.size false) = true) (hQ : ∀ c a d v w, Q (.panic c) (Act.put a d v) w → Q (.panic c) a w) (h : Walk P ops Q S l a w.drew) : (Code.region id ops true).wp P Q a w :=
  wp_region_held (S := S) hm (Walk.any hs hQ l _ _ a _ hB h)

theorem Walk.take {i : Nat} {l : Ord} {a : Act} {w : World} {d : Option Tmp} {op : Op} {ty : TypeId} {pos : String} {af : Array Edge} (v : Value) (ho : ops[i]? = some ⟨d, op, ty, pos, af, none⟩) (hS : S w)
    (hy : ∀ W, S W → (execOp a.eval ⟨d, op, ty, pos, af, none⟩).run P W = .ok (.value v) W) (h : Walk P ops Q S l (a.put d v) w) : Walk P ops Q S (.t i l) a w := ⟨hS, _, v, ho, .inl ⟨rfl, hy⟩, h⟩
/-- What an operation comes to: a call. -/
theorem op_call {K : Act → World → Prop} {i : Nat} {a : Act} {w : World} {d : Option Tmp} {op : Op} {ty : TypeId} {pos : String} {af : Array Edge} (f : FuncId) (args : Array Value) (ho : ops[i]? = some ⟨d, op, ty, pos, af, none⟩)
    (hr : (execOp a.eval ⟨d, op, ty, pos, af, none⟩).run P w = .ok (.enter f args) w) (h : Calls P f args w fun e w' => ∃ v, e = .returned v ∧ K (a.put d v) w') : wpOp P ops Q i K a w := by
  refine wpOp_step ho fun K' hK => ?_
  rw [if_pos (by rfl)]
  unfold Oper.wp
  rw [hr, Oper.upon_enter]
  refine h.mono fun e w'' hh => ?_
  obtain ⟨v, rfl, h1⟩ := hh
  exact hK _ _ h1
/-- A value, and another world. -/
theorem op_value {K : Act → World → Prop} {i : Nat} {a : Act} {w w' : World} {d : Option Tmp} {op : Op} {ty : TypeId} {pos : String} {af : Array Edge} (v : Value) (ho : ops[i]? = some ⟨d, op, ty, pos, af, none⟩)
    (hr : (execOp a.eval ⟨d, op, ty, pos, af, none⟩).run P w = .ok (.value v) w') (h : K (a.put d v) w') : wpOp P ops Q i K a w := by
  refine wpOp_step ho fun K' hK => ?_
  rw [if_pos (by rfl)]
  unfold Oper.wp
  rw [hr, Oper.upon_value]
  exact hK _ _ h
/-- A store. -/
theorem op_skip {K : Act → World → Prop} {i : Nat} {a : Act} {w w' : World} {d : Option Tmp} {op : Op} {ty : TypeId} {pos : String} {af : Array Edge} (ho : ops[i]? = some ⟨d, op, ty, pos, af, none⟩)
    (hr : (execOp a.eval ⟨d, op, ty, pos, af, none⟩).run P w = .ok .skip w') (h : K (a.put d undef) w') : wpOp P ops Q i K a w := by
  refine wpOp_step ho fun K' hK => ?_
  rw [if_pos (by rfl)]
  unfold Oper.wp
  rw [hr, Oper.upon_skip]
  exact hK _ _ h
end
end Go.Proofs.YtjlkjebmilfgoaaGreat
