/- Layer 13: what Go's library says of texts, in this layer's plain words: cut at byte 47, the last place of a byte, the order by bytes. -/
import Derived.Test.YtmdfkchgklphlaaRtL
import Derived.Lib.SplitLaws
import Derived.Lib.Split
import Derived.Lib.LastIndexByte
namespace Go.Proofs.Ytmdfkchgklphlaa
open Go.RowKit

theorem cut47 : ∀ l : List UInt8, (∀ b ∈ l, b ≠ 47) ∨ ∃ a b, l = a ++ 47 :: b ∧ ∀ x ∈ a, x ≠ 47
  | [] => .inl fun b h => by cases h
  | c :: l => by
    by_cases hc : c = 47
    · exact .inr ⟨[], l, by rw [hc]; rfl, fun x h => by cases h⟩
    · rcases cut47 l with h | ⟨a, b, e, h⟩
      · exact .inl fun b hb => by
          rcases List.mem_cons.1 hb with rfl | h2
          · exact hc
          · exact h b h2
      · exact .inr ⟨c :: a, b, by rw [e]; rfl, fun x hx => by
          rcases List.mem_cons.1 hx with rfl | h2
          · exact hc
          · exact h x h2⟩
theorem index_no : ∀ l : List UInt8, (∀ b ∈ l, b ≠ 47) → Lib.index l [47] = -1
  | [], _ => rfl
  | c :: l, h => by
    have hc : ¬ (47 : UInt8) = c := fun e => h c List.mem_cons_self e.symm
    unfold Lib.index
    rw [if_neg (by simpa [List.isPrefixOf] using hc), index_no l fun b hb => h b (List.mem_cons_of_mem _ hb)]
    rfl
theorem index_yes : ∀ a b : List UInt8, (∀ x ∈ a, x ≠ 47) → Lib.index (a ++ 47 :: b) [47] = a.length
  | [], b, _ => by
    rw [List.nil_append]
    unfold Lib.index
    rw [if_pos (by simp [List.isPrefixOf])]
    rfl
  | c :: a, b, h => by
    have hc : ¬ (47 : UInt8) = c := fun e => h c List.mem_cons_self e.symm
    rw [List.cons_append]
    unfold Lib.index
    rw [if_neg (by simpa [List.isPrefixOf] using hc), index_yes a b fun b hb => h b (List.mem_cons_of_mem _ hb), if_neg (by simp), List.length_cons]
    omega
theorem drop_past (a b : List UInt8) : (a ++ 47 :: b).drop (a.length + 1) = b := by
  rw [← List.drop_drop, List.drop_left]
  rfl
theorem split_K (n : Nat) : ∀ l : List UInt8, l.length ≤ n → Lib.splitK [47] 0 (Lib.count l [47]) l = splitF l := by
  induction n with
  | zero =>
    intro l h
    obtain rfl : l = [] := List.length_eq_zero_iff.1 (by omega)
    rw [Lib.count_miss (index_no [] fun b h => by cases h)]
    rfl
  | succ n ih =>
    intro l h
    rcases cut47 l with hn | ⟨a, b, rfl, hn⟩
    · rw [Lib.count_miss (index_no l hn), split_one l hn]
      rfl
    · have hi := index_yes a b hn
      rw [Lib.count_hit (by simp) hi, Nat.add_comm 1]
      unfold Lib.splitK
      rw [hi, if_neg (by simp)]
      simp only [Int.toNat_natCast, Nat.add_zero, List.take_left', List.length_cons, List.length_nil, Nat.zero_add]
      rw [drop_past, ih b (by rw [List.length_append, List.length_cons] at h; omega), split_cut a b hn]
theorem split_B (l : List UInt8) : (Lib.splitB ⟨#[47]⟩ 0 (Lib.countB (tx l) ⟨#[47]⟩) (tx l)).map Value.string = strs (splitF l) := by
  have h := Lib.splitB_data ⟨#[47]⟩ 0 (Lib.countB (tx l) ⟨#[47]⟩) (tx l)
  have e : Lib.splitK [47] 0 (Lib.countB (tx l) ⟨#[47]⟩) l = splitF l := split_K l.length l (Nat.le_refl _)
  rw [tx_list] at h
  have e2 : (Lib.splitB ⟨#[47]⟩ 0 (Lib.countB (tx l) ⟨#[47]⟩) (tx l)).map (·.data.toList) = splitF l := h.trans e
  rw [← e2, strs, List.map_map]
  rfl
theorem split_n (l : List UInt8) : Lib.countB (tx l) ⟨#[47]⟩ + 1 = (splitF l).length := by
  have h := Lib.splitB_all ⟨#[47]⟩ (by decide) 0 _ (tx l) rfl
  rw [← h, ← strs_length (splitF l), ← split_B, List.length_map]
theorem cut_no (l : List UInt8) (h : ∀ b ∈ l, b ≠ 47) : Lib.cut l [47] = (l, [], false) := by
  unfold Lib.cut
  rw [index_no l h, if_neg (by decide)]
theorem cut_yes (a b : List UInt8) (h : ∀ x ∈ a, x ≠ 47) : Lib.cut (a ++ 47 :: b) [47] = (a, b, true) := by
  unfold Lib.cut
  rw [index_yes a b h, if_pos (by omega)]
  simp only [Int.toNat_natCast, List.take_left', List.length_cons, List.length_nil, Nat.zero_add]
  rw [drop_past]

/-- The last place, as Go tells it. -/
def lastZ : Option Nat → Int
  | none => -1
  | some k => (k : Int)
theorem last_is (l : List UInt8) : ∀ k, k ≤ l.length → Lib.lastIdx (tx l) 47 k = lastZ (lstF l k)
  | 0, _ => rfl
  | k + 1, h => by
    have e : (tx l).data[k]! = l.getD k 0 := by
      show l.toArray[k]! = _
      rw [getElem!_pos l.toArray k (by rw [List.size_toArray]; omega), List.getD_eq_getElem?_getD, List.getElem?_eq_getElem (by omega)]
      rfl
    unfold Lib.lastIdx lstF
    rw [e]
    by_cases hc : l.getD k 0 = 47
    · rw [if_pos (by rw [hc]; rfl), if_pos hc]
      rfl
    · rw [if_neg (fun h2 : ((l.getD k 0).toNat : Int) = 47 => hc (UInt8.toNat_inj.1 (Int.ofNat.inj h2))), if_neg hc]
      exact last_is l k (by omega)
theorem last_B (l : List UInt8) : Lib.lastIndexByte (tx l) 47 = lastZ (lstF l l.length) := by
  unfold Lib.lastIndexByte
  rw [tx_size, last_is l _ (Nat.le_refl _)]

/-- A byte's place in order. -/
def rankF (c : UInt8) : Int := if c = 47 then -1 else (c.toNat : Int)
def cmpB : List UInt8 → List UInt8 → Int
  | [], [] => 0
  | [], _ :: _ => -1
  | _ :: _, [] => 1
  | x :: a, y :: b => if x = y then cmpB a b else if rankF x < rankF y then -1 else 1
theorem bl_nil (y : UInt8) (q : List UInt8) : Op.bytesLess [] (y :: q) = true := rfl
theorem bl_nil2 (x : List UInt8) : Op.bytesLess x [] = false := by cases x <;> rfl
theorem cmp_split : ∀ a b : List UInt8, cmpF (splitF a) (splitF b) = cmpB a b
  | [], [] => by
    rw [cmp_refl]
    rfl
  | [], y :: b => by
    unfold cmpB splitF
    by_cases hy : y = 47
    · rw [if_pos hy, cmpF, if_neg (by rw [bl_irrefl]; decide), if_pos rfl]
      rcases hb : splitF b with _ | ⟨p, r⟩
      · exact (split_ne b hb).elim
      · rfl
    · rw [if_neg hy]
      rcases hb : splitF b with _ | ⟨p, r⟩
      · exact (split_ne b hb).elim
      · show cmpF [[]] ((y :: p) :: r) = -1
        rw [cmpF, if_pos (bl_nil _ _)]
  | x :: a, [] => by
    unfold cmpB splitF
    by_cases hx : x = 47
    · rw [if_pos hx, cmpF, if_neg (by rw [bl_irrefl]; decide), if_pos rfl]
      rcases hb : splitF a with _ | ⟨p, r⟩
      · exact (split_ne a hb).elim
      · rfl
    · rw [if_neg hx]
      rcases hb : splitF a with _ | ⟨p, r⟩
      · exact (split_ne a hb).elim
      · show cmpF ((x :: p) :: r) [[]] = 1
        rw [cmpF, if_neg (by rw [bl_nil2]; decide), if_neg (by simp)]
  | x :: a, y :: b => by
    have ih := cmp_split a b
    unfold cmpB
    by_cases hx : x = 47
    · by_cases hy : y = 47
      · rw [hx, hy, if_pos rfl, splitF, if_pos rfl, splitF, if_pos rfl, cmpF, if_neg (by rw [bl_irrefl]; decide), if_pos rfl, ih]
      · have hl : rankF x < rankF y := by
          unfold rankF
          rw [if_pos hx, if_neg hy]
          omega
        rw [if_neg (fun e : x = y => hy (e ▸ hx)), if_pos hl, splitF, if_pos hx, splitF, if_neg hy]
        rcases hb : splitF b with _ | ⟨p, r⟩
        · exact (split_ne b hb).elim
        · show cmpF ([] :: splitF a) ((y :: p) :: r) = -1
          rw [cmpF, if_pos (bl_nil _ _)]
    · by_cases hy : y = 47
      · have hl : ¬ rankF x < rankF y := by
          unfold rankF
          rw [if_neg hx, if_pos hy]
          omega
        rw [if_neg (fun e : x = y => hx (e ▸ hy)), if_neg hl, splitF, if_neg hx, splitF, if_pos hy]
        rcases hb : splitF a with _ | ⟨p, r⟩
        · exact (split_ne a hb).elim
        · show cmpF ((x :: p) :: r) ([] :: splitF b) = 1
          rw [cmpF, if_neg (by rw [bl_nil2]; decide), if_neg (by simp)]
      · rw [splitF, if_neg hx, splitF, if_neg hy]
        rcases ha : splitF a with _ | ⟨p, r⟩
        · exact (split_ne a ha).elim
        · rcases hb : splitF b with _ | ⟨q, s⟩
          · exact (split_ne b hb).elim
          · rw [ha, hb] at ih
            show cmpF ((x :: p) :: r) ((y :: q) :: s) = _
            by_cases e : x = y
            · subst e
              rw [if_pos rfl, ← ih, cmpF, cmpF]
              have e1 : Op.bytesLess (x :: p) (x :: q) = Op.bytesLess p q := by
                rw [Bool.eq_iff_iff, bl_cons]
                constructor
                · rintro (h | ⟨_, h⟩)
                  · exact (UInt8.lt_irrefl _ h).elim
                  · exact h
                · exact fun h => .inr ⟨rfl, h⟩
              rw [e1]
              by_cases h1 : Op.bytesLess p q = true
              · rw [if_pos h1, if_pos h1]
              · rw [if_neg h1, if_neg h1]
                by_cases h2 : p = q
                · rw [if_pos h2, if_pos (by rw [h2])]
                · rw [if_neg h2, if_neg (fun h => h2 (List.cons.inj h).2)]
            · rw [if_neg e, cmpF]
              have hr : rankF x < rankF y ↔ x < y := by
                unfold rankF
                rw [if_neg hx, if_neg hy, UInt8.lt_iff_toNat_lt]
                omega
              by_cases hl : x < y
              · rw [if_pos (hr.2 hl), if_pos ((bl_cons _ _ _ _).2 (.inl hl))]
              · rw [if_neg (fun h => hl (hr.1 h)), if_neg (fun h => ?_), if_neg (fun h => e (List.cons.inj h).1)]
                rcases (bl_cons _ _ _ _).1 h with h | ⟨h, _⟩
                · exact hl h
                · exact e h
theorem cmp_parts (a b : List UInt8) : cmpF (partsF a) (partsF b) = cmpB a b := by
  unfold partsF
  by_cases ha : a = []
  · subst ha
    rw [if_pos rfl]
    by_cases hb : b = []
    · subst hb
      rw [if_pos rfl]
      rfl
    · rw [if_neg hb]
      rcases b with _ | ⟨y, b⟩
      · exact (hb rfl).elim
      · rcases h : splitF (y :: b) with _ | ⟨p, r⟩
        · exact (split_ne _ h).elim
        · rfl
  · rw [if_neg ha]
    by_cases hb : b = []
    · subst hb
      rw [if_pos rfl]
      rcases a with _ | ⟨y, a⟩
      · exact (ha rfl).elim
      · rcases h : splitF (y :: a) with _ | ⟨p, r⟩
        · exact (split_ne _ h).elim
        · rfl
    · rw [if_neg hb, cmp_split]

theorem join_split : ∀ l : List UInt8, joinF (splitF l) = l
  | [] => rfl
  | c :: l => by
    have ih := join_split l
    unfold splitF
    by_cases hc : c = 47
    · rw [if_pos hc]
      rcases h : splitF l with _ | ⟨p, r⟩
      · exact (split_ne _ h).elim
      · rw [joinF, ← h, ih, hc]
        rfl
    · rw [if_neg hc]
      rcases h : splitF l with _ | ⟨p, r⟩
      · exact (split_ne _ h).elim
      · rw [h] at ih
        show joinF ((c :: p) :: r) = _
        cases r with
        | nil => rw [← ih]; rfl
        | cons q s => rw [← ih]; rfl
theorem join_two : ∀ a b : List (List UInt8), a ≠ [] → b ≠ [] → joinF (a ++ b) = joinF a ++ 47 :: joinF b
  | [], _, h, _ => (h rfl).elim
  | [x], [], _, h => (h rfl).elim
  | [x], y :: b, _, _ => rfl
  | x :: y :: a, b, _, hb => by
    have h := join_two (y :: a) b (by simp) hb
    show joinF (x :: y :: (a ++ b)) = _
    rw [joinF, joinF, ← List.cons_append, h, List.append_assoc]
    rfl
theorem split_cons (c : UInt8) (l : List UInt8) : splitF (c :: l) = if c = 47 then [] :: splitF l else match splitF l with
    | [] => [[c]]
    | p :: r => (c :: p) :: r := rfl
theorem split_two : ∀ d r : List UInt8, splitF (d ++ 47 :: r) = splitF d ++ splitF r
  | [], r => by
    rw [List.nil_append, split_cons, if_pos rfl]
    rfl
  | c :: d, r => by
    have ih := split_two d r
    rw [List.cons_append, split_cons, split_cons]
    by_cases hc : c = 47
    · rw [if_pos hc, if_pos hc, ih]
      rfl
    · rw [if_neg hc, if_neg hc, ih]
      rcases h : splitF d with _ | ⟨p, s⟩
      · exact (split_ne _ h).elim
      · rfl
/-- Under, by bytes. -/
def underB (p d : List UInt8) : Bool := if d = [] then decide (p ≠ []) else decide (d.length < p.length) && (decide (p.getD d.length 0 = 47) && decide (p.take d.length = d))
theorem under_parts (p d : List UInt8) : underF (partsF p) (partsF d) = underB p d := by
  unfold underB
  by_cases hd : d = []
  · rw [if_pos hd]
    subst hd
    rw [Bool.eq_iff_iff, show partsF ([] : List UInt8) = [] from rfl, under_nil, decide_eq_true_eq]
    unfold partsF
    by_cases hp : p = []
    · rw [if_pos hp]
      exact ⟨fun h => (h rfl).elim, fun h => (h hp).elim⟩
    · rw [if_neg hp]
      exact ⟨fun _ => hp, fun _ => split_ne p⟩
  · rw [if_neg hd, show partsF d = splitF d from if_neg hd, Bool.eq_iff_iff]
    unfold underF
    rw [Bool.and_eq_true, Bool.and_eq_true, Bool.and_eq_true, decide_eq_true_eq, decide_eq_true_eq, decide_eq_true_eq, decide_eq_true_eq, beq_iff_eq]
    constructor
    · rintro ⟨h1, h2⟩
      have hp : p ≠ [] := fun e => by
        rw [e] at h1
        exact absurd h1 (Nat.not_lt_zero _)
      rw [show partsF p = splitF p from if_neg hp] at h1 h2
      have e : p = d ++ 47 :: joinF ((splitF p).drop (splitF d).length) := by
        conv => lhs; rw [← join_split p, ← List.take_append_drop (splitF d).length (splitF p), h2]
        rw [join_two _ _ (split_ne d) (fun h => by
          have := List.drop_eq_nil_iff.1 h
          omega), join_split]
      rw [e]
      refine ⟨by simp, by simp [List.getD_eq_getElem?_getD], by simp⟩
    · rintro ⟨h1, h2, h3⟩
      have hp : p ≠ [] := fun e => by
        rw [e] at h1
        exact absurd h1 (Nat.not_lt_zero _)
      rw [show partsF p = splitF p from if_neg hp]
      have e : p = d ++ 47 :: p.drop (d.length + 1) := by
        conv => lhs; rw [← List.take_append_drop d.length p, h3, List.drop_eq_getElem_cons h1]
        rw [List.getD_eq_getElem?_getD, List.getElem?_eq_getElem h1] at h2
        have h2' : p[d.length] = 47 := h2
        rw [h2']
      rw [e, split_two]
      refine ⟨?_, by simp⟩
      rw [List.length_append]
      have := List.length_pos_iff.2 (split_ne (p.drop (d.length + 1)))
      omega
end Go.Proofs.Ytmdfkchgklphlaa
