/- Layer 13 in plain words: what stands between bytes 47, texts as bytes. -/
import Derived.Test.YtmdfkchgklphlaaGRs
namespace Go.Proofs.Ytmdfkchgklphlaa
open Go.RowKit

/-- A text of bytes. -/
def tx (l : List UInt8) : ByteArray := ⟨l.toArray⟩
theorem tx_self (s : ByteArray) : tx s.data.toList = s := rfl
theorem tx_list (l : List UInt8) : (tx l).data.toList = l := rfl
theorem tx_toList (l : List UInt8) : (tx l).toList = l := ByteArray.toList_mk l
theorem tx_size (l : List UInt8) : (tx l).size = l.length := List.size_toArray
theorem tx_inj {a b : List UInt8} (h : tx a = tx b) : a = b := by rw [← tx_list a, h, tx_list]
theorem tx_cut (s : ByteArray) (i j : Nat) : s.extract i j = tx ((s.data.toList.take j).drop i) := by
  apply ByteArray.ext
  show (s.extract i j).data = ((s.data.toList.take j).drop i).toArray
  apply Array.ext'
  rw [ByteArray.data_extract, Array.toList_extract, List.extract_eq_take_drop, List.drop_take]
theorem tx_add (a b : List UInt8) : tx a ++ tx b = tx (a ++ b) := by
  apply ByteArray.ext
  show (tx a ++ tx b).data = (a ++ b).toArray
  rw [ByteArray.data_append]
  show a.toArray ++ b.toArray = _
  simp
/-- Rows of texts as cells. -/
def strs (ps : List (List UInt8)) : List Value := ps.map fun p => .string (tx p)
theorem strs_length (ps : List (List UInt8)) : (strs ps).length = ps.length := List.length_map ..
theorem strs_snoc (ps : List (List UInt8)) (p : List UInt8) : strs ps ++ [.string (tx p)] = strs (ps ++ [p]) := by simp [strs]
theorem strs_at (ps : List (List UInt8)) (i : Nat) (h : i < ps.length) : (strs ps)[i]? = some (.string (tx (ps.getD i []))) := by simp [strs, h]

/-- What stands between bytes 47. -/
def splitF : List UInt8 → List (List UInt8)
  | [] => [[]]
  | b :: l => if b = 47 then [] :: splitF l else match splitF l with
    | [] => [[b]]
    | p :: r => (b :: p) :: r
theorem split_ne : ∀ l, splitF l ≠ []
  | [] => by simp [splitF]
  | b :: l => by
    unfold splitF
    split
    · simp
    · split <;> simp
theorem split_one : ∀ a : List UInt8, (∀ b ∈ a, b ≠ 47) → splitF a = [a]
  | [], _ => rfl
  | b :: a, h => by
    rw [splitF, if_neg (h b List.mem_cons_self), split_one a fun x hx => h x (List.mem_cons_of_mem _ hx)]
theorem split_cut : ∀ a b : List UInt8, (∀ x ∈ a, x ≠ 47) → splitF (a ++ 47 :: b) = a :: splitF b
  | [], b, _ => by rw [List.nil_append, splitF, if_pos rfl]
  | x :: a, b, h => by
    rw [List.cons_append, splitF, if_neg (h x List.mem_cons_self), split_cut a b fun y hy => h y (List.mem_cons_of_mem _ hy)]
theorem split_parts : ∀ (l p : List UInt8), p ∈ splitF l → ∀ b ∈ p, b ≠ 47
  | [], p, hp, b, hb => by
    simp only [splitF, List.mem_singleton] at hp
    subst hp
    cases hb
  | c :: l, p, hp, b, hb => by
    unfold splitF at hp
    split at hp
    · rcases List.mem_cons.1 hp with rfl | h
      · cases hb
      · exact split_parts l p h b hb
    · rename_i hc
      split at hp
      · rename_i e
        exact (split_ne l e).elim
      · rename_i q r e
        rcases List.mem_cons.1 hp with rfl | h
        · rcases List.mem_cons.1 hb with rfl | h2
          · exact hc
          · exact split_parts l q (by rw [e]; exact List.mem_cons_self) b h2
        · exact split_parts l p (by rw [e]; exact List.mem_cons_of_mem _ h) b hb
theorem split_few : ∀ l : List UInt8, (splitF l).length ≤ l.length + 1
  | [] => Nat.le_refl _
  | b :: l => by
    have := split_few l
    unfold splitF
    split
    · rw [List.length_cons, List.length_cons]
      omega
    · split
      · simp
      · rename_i e
        rw [e] at this
        rw [List.length_cons] at this ⊢
        rw [List.length_cons]
        omega
/-- The parts of a text. -/
def partsF (l : List UInt8) : List (List UInt8) := if l = [] then [] else splitF l
theorem parts_few (l : List UInt8) : (partsF l).length ≤ l.length + 1 := by
  unfold partsF
  split
  · exact Nat.zero_le _
  · exact split_few l
/-- Parts, one behind the other. -/
def joinF : List (List UInt8) → List UInt8
  | [] => []
  | [x] => x
  | x :: y :: r => x ++ 47 :: joinF (y :: r)
theorem split_join : ∀ ps : List (List UInt8), ps ≠ [] → (∀ p ∈ ps, ∀ b ∈ p, b ≠ 47) → splitF (joinF ps) = ps
  | [], h, _ => (h rfl).elim
  | [x], _, h => split_one x (h x List.mem_cons_self)
  | x :: y :: r, _, h => by
    rw [joinF, split_cut x _ (h x List.mem_cons_self), split_join (y :: r) (by simp) fun p hp => h p (List.mem_cons_of_mem _ hp)]

/-- Where the search for parts stands at byte i: those that are done, and where the next one begins. -/
def PtAt (l : List UInt8) (i f : Nat) (done : List (List UInt8)) : Prop :=
  (i ≤ l.length ∧ f ≤ i ∧ (∀ k, f ≤ k → k < i → l.getD k 0 ≠ 47) ∧ done ++ splitF (l.drop f) = splitF l) ∨ (i = l.length + 1 ∧ done = splitF l)
theorem PtAt.start (l : List UInt8) : PtAt l 0 0 [] := .inl ⟨Nat.zero_le _, Nat.le_refl _, fun k h1 h2 => by omega, rfl⟩
theorem PtAt.skip {l : List UInt8} {i f : Nat} {done : List (List UInt8)} (h : PtAt l i f done) (hi : i < l.length) (hb : l.getD i 0 ≠ 47) : PtAt l (i + 1) f done := by
  rcases h with ⟨h1, h2, h3, h4⟩ | ⟨h1, _⟩
  · refine .inl ⟨by omega, by omega, fun k g1 g2 => ?_, h4⟩
    by_cases e : k = i
    · rw [e]; exact hb
    · exact h3 k g1 (by omega)
  · omega
theorem none47 (l : List UInt8) (f i : Nat) (hi : i ≤ l.length) (h : ∀ k, f ≤ k → k < i → l.getD k 0 ≠ 47) : ∀ x ∈ (l.take i).drop f, x ≠ 47 := fun x hx => by
  obtain ⟨k, hk, rfl⟩ := List.mem_iff_getElem.1 hx
  rw [List.length_drop, List.length_take] at hk
  have := h (f + k) (by omega) (by omega)
  rw [List.getD_eq_getElem?_getD, List.getElem?_eq_getElem (by omega)] at this
  rw [List.getElem_drop, List.getElem_take]
  exact this
theorem PtAt.cut {l : List UInt8} {i f : Nat} {done : List (List UInt8)} (h : PtAt l i f done) (hi : i < l.length) (hb : l.getD i 0 = 47) : f ≤ i ∧ PtAt l (i + 1) (i + 1) (done ++ [(l.take i).drop f]) := by
  rcases h with ⟨h1, h2, h3, h4⟩ | ⟨h1, _⟩
  · refine ⟨h2, .inl ⟨by omega, Nat.le_refl _, fun k g1 g2 => by omega, ?_⟩⟩
    rw [← h4]
    have e : l.drop f = (l.take i).drop f ++ 47 :: l.drop (i + 1) := by
      have e1 : l = l.take i ++ l.drop i := (List.take_append_drop i l).symm
      have e2 : l.drop i = l.getD i 0 :: l.drop (i + 1) := by
        rw [List.drop_eq_getElem_cons hi, List.getD_eq_getElem?_getD, List.getElem?_eq_getElem hi]
        rfl
      conv => lhs; rw [e1]
      rw [List.drop_append_of_le_length (by rw [List.length_take]; omega), e2, hb]
    rw [e, split_cut _ _ (none47 l f i h1 h3), List.append_assoc]
    rfl
  · omega
theorem PtAt.last {l : List UInt8} {f : Nat} {done : List (List UInt8)} (h : PtAt l l.length f done) : f ≤ l.length ∧ PtAt l (l.length + 1) (l.length + 1) (done ++ [(l.take l.length).drop f]) := by
  rcases h with ⟨h1, h2, h3, h4⟩ | ⟨h1, _⟩
  · refine ⟨h2, .inr ⟨rfl, ?_⟩⟩
    rw [← h4, List.take_of_length_le (Nat.le_refl _)]
    congr 1
    have := none47 l f l.length h1 h3
    rw [List.take_of_length_le (Nat.le_refl _)] at this
    exact (split_one _ this).symm
  · omega
theorem PtAt.done {l : List UInt8} {f : Nat} {done : List (List UInt8)} (h : PtAt l (l.length + 1) f done) : done = splitF l := by
  rcases h with ⟨h1, _⟩ | ⟨_, h2⟩
  · omega
  · exact h2
end Go.Proofs.Ytmdfkchgklphlaa

/- Layer 13 in plain words: parents, names, what is under what, and the order. -/
namespace Go.Proofs.Ytmdfkchgklphlaa
open Go.RowKit

theorem join_snoc : ∀ (a : List (List UInt8)) (p : List UInt8), joinF (a ++ [p]) = if a = [] then p else joinF a ++ 47 :: p
  | [], p => rfl
  | [x], p => rfl
  | x :: y :: r, p => by
    have h := join_snoc (y :: r) p
    rw [if_neg (by simp)] at h ⊢
    show joinF (x :: y :: (r ++ [p])) = _
    rw [joinF, joinF]
    rw [List.cons_append] at h
    rw [h, List.append_assoc]
    rfl
theorem join_mono (ps : List (List UInt8)) : ∀ i, (joinF (ps.take i)).length ≤ (joinF ps).length := fun i => by
  induction ps generalizing i with
  | nil => simp
  | cons x r ih =>
    cases i with
    | zero => simp [joinF]
    | succ i =>
      rw [List.take_succ_cons]
      cases r with
      | nil => simp
      | cons y r =>
        cases i with
        | zero => simp [joinF]
        | succ i =>
          have := ih (i + 1)
          rw [List.take_succ_cons] at this ⊢
          rw [joinF, joinF, List.length_append, List.length_append, List.length_cons, List.length_cons]
          omega
/-- Where the last byte 47 ahead of place k stands. -/
def lstF (l : List UInt8) : Nat → Option Nat
  | 0 => none
  | k + 1 => if l.getD k 0 = 47 then some k else lstF l k
theorem lst_lt (l : List UInt8) : ∀ k j, lstF l k = some j → j < k
  | 0, _, h => by simp [lstF] at h
  | k + 1, j, h => by
    unfold lstF at h
    split at h
    · obtain rfl := Option.some.inj h
      omega
    · have := lst_lt l k j h
      omega
def parentOf (l : List UInt8) : Option Nat → List UInt8 × Bool
  | some k => (l.take k, true)
  | none => ([], false)
def parentF (l : List UInt8) : List UInt8 × Bool := parentOf l (lstF l l.length)
def baseOf (l : List UInt8) : Option Nat → List UInt8
  | some k => l.drop (k + 1)
  | none => l
def baseF (l : List UInt8) : List UInt8 := baseOf l (lstF l l.length)
def dirF (d n : List UInt8) : List UInt8 := if d = [] then n else d ++ 47 :: n
def underF (a b : List (List UInt8)) : Bool := decide (b.length < a.length) && (a.take b.length == b)
def cmpF : List (List UInt8) → List (List UInt8) → Int
  | [], [] => 0
  | [], _ :: _ => -1
  | _ :: _, [] => 1
  | x :: a, y :: b => if Op.bytesLess x y = true then -1 else if x = y then cmpF a b else 1
end Go.Proofs.Ytmdfkchgklphlaa

/- Layer 13 in plain words: code points, paths that may be, the path of a name. -/
namespace Go.Proofs.Ytmdfkchgklphlaa
open Go.RowKit

def longF (c : Nat) : Nat × Nat := if c < 128 then (1, c) else if 192 ≤ c ∧ c < 224 then (2, c - 192) else if 224 ≤ c ∧ c < 240 then (3, c - 224) else if 240 ≤ c ∧ c < 248 then (4, c - 240) else (0, 0)
theorem longF_le (c : Nat) : (longF c).1 ≤ 4 ∧ (longF c).2 < 128 := by
  unfold longF
  split
  · exact ⟨(by show 1 ≤ 4; decide), by omega⟩
  · split
    · exact ⟨(by show 2 ≤ 4; decide), by show c - 192 < 128; omega⟩
    · split
      · exact ⟨(by show 3 ≤ 4; decide), by show c - 224 < 128; omega⟩
      · split
        · exact ⟨(by show 4 ≤ 4; decide), by show c - 240 < 128; omega⟩
        · decide
def contF (l : List UInt8) (a : Nat) : Nat → Nat → Nat → Option Nat
  | 0, _, code => some code
  | m + 1, k, code => if (l.getD (a + k) 0).toNat < 128 ∨ 192 ≤ (l.getD (a + k) 0).toNat then none else contF l a m (k + 1) (64 * code + (l.getD (a + k) 0).toNat - 128)
def leastC (n : Nat) : Nat := if n = 2 then 128 else if n = 3 then 2048 else if n = 4 then 65536 else 0
def endF (n : Nat) : Option Nat → Nat × Nat
  | none => (0, 0)
  | some code => if code < leastC n ∨ 1114111 < code ∨ (55296 ≤ code ∧ code < 57344) then (0, 0) else (code, n)
def nextF (l : List UInt8) (a : Nat) : Nat × Nat :=
  if (longF (l.getD a 0).toNat).1 = 0 ∨ l.length < a + (longF (l.getD a 0).toNat).1 then (0, 0)
  else endF (longF (l.getD a 0).toNat).1 (contF l a ((longF (l.getD a 0).toNat).1 - 1) 1 (longF (l.getD a 0).toNat).2)
theorem nextF_le (l : List UInt8) (a : Nat) : (nextF l a).2 ≤ 4 ∧ (0 < (nextF l a).2 → a + (nextF l a).2 ≤ l.length) := by
  have h := longF_le (l.getD a 0).toNat
  unfold nextF
  split
  · exact ⟨by decide, fun h => by cases h⟩
  · rename_i hn
    cases contF l a ((longF (l.getD a 0).toNat).1 - 1) 1 (longF (l.getD a 0).toNat).2 with
    | none => exact ⟨by show 0 ≤ 4; decide, fun h => by cases h⟩
    | some code =>
      simp only [endF]
      split
      · exact ⟨by decide, fun h => by cases h⟩
      · exact ⟨h.1, fun _ => by show a + (longF (l.getD a 0).toNat).1 ≤ l.length; omega⟩
/-- May the bytes from a place on be? -/
def bytesOk (l : List UInt8) : Nat → Nat → Bool
  | 0, _ => true
  | f + 1, a => if a < l.length then (if (nextF l a).2 = 0 ∨ (l.getD a 0).toNat < 32 ∨ (l.getD a 0).toNat = 127 ∨ (l.getD a 0).toNat = 92 then false else bytesOk l f (a + (nextF l a).2)) else true
def partOk (p : List UInt8) : Bool := !(decide (p = []) || decide (255 < p.length) || decide (p = [46]) || decide (p = [46, 46]))
def rightF (l : List UInt8) : Bool := decide (1 ≤ l.length) && decide (l.length ≤ 1024) && bytesOk l l.length 0 && decide ((partsF l).length ≤ 32) && (partsF l).all partOk
def keepP (p : List UInt8) : Bool := !(decide (p = [])) && !(decide (p = [46]))
def pathF (l : List UInt8) : List UInt8 := joinF ((partsF l).filter keepP)
def normF (l : List UInt8) : List UInt8 × Bool × Int := if l = [] ∨ l.getD 0 0 = 47 then ([], false, 5) else if rightF (pathF l) = true then (pathF l, decide (l.getD (l.length - 1) 0 = 47), 0) else ([], false, 5)
end Go.Proofs.Ytmdfkchgklphlaa

namespace Go.Proofs.Ytmdfkchgklphlaa
open Go.RowKit

/-- How many bytes parts take, each with one byte behind it. -/
def wtF : List (List UInt8) → Nat
  | [] => 0
  | p :: r => p.length + 1 + wtF r
theorem split_wt : ∀ l : List UInt8, wtF (splitF l) = l.length + 1
  | [] => rfl
  | b :: l => by
    have h := split_wt l
    unfold splitF
    split
    · show 0 + 1 + wtF (splitF l) = _
      rw [h, List.length_cons]
      omega
    · split
      · rename_i e
        exact (split_ne l e).elim
      · rename_i p r e
        rw [e] at h
        show (b :: p).length + 1 + wtF r = _
        have h2 : p.length + 1 + wtF r = l.length + 1 := h
        rw [List.length_cons, List.length_cons]
        omega
theorem filter_wt (q : List UInt8 → Bool) : ∀ ps : List (List UInt8), wtF (ps.filter q) ≤ wtF ps
  | [] => Nat.le_refl _
  | p :: r => by
    have h := filter_wt q r
    rw [List.filter_cons]
    split
    · show p.length + 1 + wtF (r.filter q) ≤ p.length + 1 + wtF r
      omega
    · show wtF (r.filter q) ≤ p.length + 1 + wtF r
      omega
theorem join_wt : ∀ ps : List (List UInt8), (joinF ps).length ≤ wtF ps
  | [] => Nat.le_refl _
  | [x] => by show x.length ≤ x.length + 1 + 0; omega
  | x :: y :: r => by
    have h := join_wt (y :: r)
    rw [joinF, List.length_append, List.length_cons]
    show _ ≤ x.length + 1 + wtF (y :: r)
    omega
theorem path_len (l : List UInt8) : (pathF l).length ≤ l.length + 1 := by
  have h1 := join_wt ((partsF l).filter keepP)
  have h2 := filter_wt keepP (partsF l)
  have h3 : wtF (partsF l) ≤ l.length + 1 := by
    unfold partsF
    split
    · exact Nat.zero_le _
    · rw [split_wt]
      exact Nat.le_refl _
  unfold pathF
  omega
theorem bytesOk_step (l : List UInt8) (f a : Nat) (h : a < l.length) : bytesOk l (f + 1) a = if (nextF l a).2 = 0 ∨ (l.getD a 0).toNat < 32 ∨ (l.getD a 0).toNat = 127 ∨ (l.getD a 0).toNat = 92 then false else bytesOk l f (a + (nextF l a).2) := by
  rw [bytesOk, if_pos h]
theorem bytesOk_end (l : List UInt8) (f a : Nat) (h : ¬ a < l.length) : bytesOk l f a = true := by
  cases f with
  | zero => rfl
  | succ f => rw [bytesOk, if_neg h]
end Go.Proofs.Ytmdfkchgklphlaa
