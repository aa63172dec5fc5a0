/- PLAIN FACTS OF SUFFIXES: how much two lists begin with alike, which is less; texts; kinds. No program is named here. -/
import Derived.Test.YtdobjlaggdnphaaBmLib
namespace Go.Inc
open Go.RowKit
/-- How many codes two lists begin with alike. -/
def cmL : List Int → List Int → Nat
  | a :: as, b :: bs => if a = b then cmL as bs + 1 else 0
  | _, _ => 0
/-- Is a list less than another one? -/
def ltL : List Int → List Int → Bool
  | a :: as, b :: bs => decide (a < b) || (decide (a = b) && ltL as bs)
  | [], _ :: _ => true
  | _, [] => false
theorem ltL_irrefl : ∀ A : List Int, ltL A A = false
  | [] => rfl
  | a :: as => by
    show (decide (a < a) || (decide (a = a) && ltL as as)) = false
    rw [ltL_irrefl as]; simp
theorem ltL_cons (a b : Int) (as bs : List Int) : ltL (a :: as) (b :: bs) = true ↔ a < b ∨ (a = b ∧ ltL as bs = true) := by
  show (decide (a < b) || (decide (a = b) && ltL as bs)) = true ↔ _
  simp
theorem ltL_trans : ∀ {A B C : List Int}, ltL A B = true → ltL B C = true → ltL A C = true
  | [], [], _, h, _ => by cases h
  | [], _ :: _, [], _, h => by cases h
  | [], _ :: _, _ :: _, _, _ => rfl
  | _ :: _, [], _, h, _ => by cases h
  | _ :: _, _ :: _, [], _, h => by cases h
  | a :: as, b :: bs, c :: cs, h, k => by
    rw [ltL_cons] at h k ⊢
    rcases h with h | ⟨rfl, h⟩
    · rcases k with k | ⟨rfl, k⟩
      · exact .inl (by omega)
      · exact .inl h
    · rcases k with k | ⟨rfl, k⟩
      · exact .inl k
      · exact .inr ⟨rfl, ltL_trans h k⟩
theorem ltL_asymm {A B : List Int} (h : ltL A B = true) : ltL B A = false := by
  cases hb : ltL B A
  · rfl
  · have := ltL_trans h hb
    rw [ltL_irrefl] at this; cases this
theorem ltL_total : ∀ {A B : List Int}, A ≠ B → ltL A B = true ∨ ltL B A = true
  | [], [], h => absurd rfl h
  | [], _ :: _, _ => .inl rfl
  | _ :: _, [], _ => .inr rfl
  | a :: as, b :: bs, h => by
    rw [ltL_cons, ltL_cons]
    by_cases h1 : a < b
    · exact .inl (.inl h1)
    · by_cases h2 : b < a
      · exact .inr (.inl h2)
      · obtain rfl : a = b := by omega
        rcases ltL_total (A := as) (B := bs) (fun e => h (by rw [e])) with h3 | h3
        · exact .inl (.inr ⟨rfl, h3⟩)
        · exact .inr (.inr ⟨rfl, h3⟩)
theorem cmL_le : ∀ A B : List Int, cmL A B ≤ A.length ∧ cmL A B ≤ B.length
  | a :: as, b :: bs => by
    have := cmL_le as bs
    show (if a = b then cmL as bs + 1 else 0) ≤ _ ∧ (if a = b then cmL as bs + 1 else 0) ≤ _
    simp only [List.length_cons]
    split <;> omega
  | [], _ => ⟨Nat.zero_le _, Nat.zero_le _⟩
  | _ :: _, [] => ⟨Nat.zero_le _, Nat.zero_le _⟩
/-- They are alike so far. -/
theorem cmL_same : ∀ (A B : List Int) (i : Nat), i < cmL A B → A.getD i 0 = B.getD i 0
  | a :: as, b :: bs, i, h => by
    have h' : i < (if a = b then cmL as bs + 1 else 0) := h
    split at h'
    · rename_i e
      cases i with
      | zero => exact e
      | succ i => exact cmL_same as bs i (by omega)
    · omega
  | [], _, _, h => by cases h
  | _ :: _, [], _, h => by cases h
/-- And then they aren't, or one has ended. -/
theorem cmL_next : ∀ (A B : List Int), cmL A B < A.length → cmL A B < B.length → A.getD (cmL A B) 0 ≠ B.getD (cmL A B) 0
  | a :: as, b :: bs, h1, h2 => by
    by_cases e : a = b
    · have he : cmL (a :: as) (b :: bs) = cmL as bs + 1 := by show (if a = b then _ else _) = _; rw [if_pos e]
      rw [he] at h1 h2 ⊢
      exact cmL_next as bs (by simpa using h1) (by simpa using h2)
    · have he : cmL (a :: as) (b :: bs) = 0 := by show (if a = b then _ else _) = _; rw [if_neg e]
      rw [he]
      exact e
  | [], _, h, _ => by simp at h
  | _ :: _, [], _, h => by simp at h
/-- Where it stops is told by this. -/
theorem cmL_is {A B : List Int} {n : Nat} (h1 : ∀ i, i < n → i < A.length ∧ i < B.length ∧ A.getD i 0 = B.getD i 0) (h2 : ¬ (n < A.length ∧ n < B.length ∧ A.getD n 0 = B.getD n 0)) : cmL A B = n := by
  rcases Nat.lt_trichotomy (cmL A B) n with h | h | h
  · have h3 := h1 _ h
    exact absurd h3.2.2 (cmL_next A B h3.1 h3.2.1)
  · exact h
  · have h3 := cmL_le A B
    exact absurd ⟨by omega, by omega, cmL_same A B n h⟩ h2
/-- The last one is 0, no other one is. -/
def RtL (A : List Int) : Prop := 0 < A.length ∧ ∀ i, i < A.length → (A.getD i 0 = 0 ↔ i + 1 = A.length)
theorem RtL.tail {a b : Int} {as : List Int} (h : RtL (a :: b :: as)) : a ≠ 0 ∧ RtL (b :: as) := by
  refine ⟨fun e => ?_, by simp, fun i hi => ?_⟩
  · have := (h.2 0 (by simp)).1 e
    simp at this
  · have := h.2 (i + 1) (by simpa using hi)
    have e1 : (a :: b :: as).getD (i + 1) 0 = (b :: as).getD i 0 := rfl
    rw [e1] at this
    rw [this]
    simp
theorem RtL.one {a : Int} (h : RtL [a]) : a = 0 := (h.2 0 (by simp)).2 rfl
/-- Two of unlike lengths part ahead of their ends. -/
theorem RtL.part : ∀ {A B : List Int}, RtL A → RtL B → A.length ≠ B.length → cmL A B < A.length ∧ cmL A B < B.length
  | [], _, h, _, _ => by have := h.1; simp at this
  | _ :: _, [], _, h, _ => by have := h.1; simp at this
  | [a], [b], _, _, h => absurd rfl h
  | [a], b :: b' :: bs, h, k, _ => by
    have h1 := h.one
    have h2 := k.tail.1
    have he : cmL [a] (b :: b' :: bs) = 0 := by show (if a = b then _ else _) = _; rw [if_neg (by rw [h1]; exact fun e => h2 e.symm)]
    rw [he]; simp
  | a :: a' :: as, [b], h, k, _ => by
    have h1 := k.one
    have h2 := h.tail.1
    have he : cmL (a :: a' :: as) [b] = 0 := by show (if a = b then _ else _) = _; rw [if_neg (by rw [h1]; exact h2)]
    rw [he]; simp
  | a :: a' :: as, b :: b' :: bs, h, k, hl => by
    by_cases e : a = b
    · have he : cmL (a :: a' :: as) (b :: b' :: bs) = cmL (a' :: as) (b' :: bs) + 1 := by show (if a = b then _ else _) = _; rw [if_pos e]
      have h3 := RtL.part h.tail.2 k.tail.2 (fun e2 => hl (by simpa using e2))
      rw [he]
      simp only [List.length_cons] at h3 ⊢
      omega
    · have he : cmL (a :: a' :: as) (b :: b' :: bs) = 0 := by show (if a = b then _ else _) = _; rw [if_neg e]
      rw [he]; simp
theorem ltL_at : ∀ {A B : List Int}, cmL A B < A.length → cmL A B < B.length → ltL A B = decide (A.getD (cmL A B) 0 < B.getD (cmL A B) 0)
  | [], _, h, _ => by simp at h
  | _ :: _, [], _, h => by simp at h
  | a :: as, b :: bs, h1, h2 => by
    by_cases e : a = b
    · have he : cmL (a :: as) (b :: bs) = cmL as bs + 1 := by show (if a = b then _ else _) = _; rw [if_pos e]
      rw [he] at h1 h2 ⊢
      show (decide (a < b) || (decide (a = b) && ltL as bs)) = decide (as.getD (cmL as bs) 0 < bs.getD (cmL as bs) 0)
      rw [ltL_at (by simpa using h1) (by simpa using h2), decide_eq_true e, decide_eq_false (by omega), Bool.false_or, Bool.true_and]
    · have he : cmL (a :: as) (b :: bs) = 0 := by show (if a = b then _ else _) = _; rw [if_neg e]
      rw [he]
      show (decide (a < b) || (decide (a = b) && ltL as bs)) = decide (a < b)
      rw [decide_eq_false e, Bool.false_and, Bool.or_false]
/-- Places of a text. -/
def cmT (x : List Int) (a b : Nat) : Nat := cmL (x.drop a) (x.drop b)
def lsT (x : List Int) (a b : Nat) : Bool := ltL (x.drop a) (x.drop b)
theorem drop_get {x : List Int} (a i : Nat) : (x.drop a).getD i 0 = x.getD (a + i) 0 := by
  rw [List.getD_eq_getElem?_getD, List.getElem?_drop, List.getD_eq_getElem?_getD]
theorem RtL.drop {x : List Int} (h : RtL x) {a : Nat} (ha : a < x.length) : RtL (x.drop a) := by
  refine ⟨by rw [List.length_drop]; omega, fun i hi => ?_⟩
  rw [List.length_drop] at hi
  rw [drop_get, h.2 (a + i) (by omega), List.length_drop]
  omega
/-- Two places of a text part within it. -/
theorem cmT_part {x : List Int} (h : RtL x) {a b : Nat} (ha : a < x.length) (hb : b < x.length) (hab : a ≠ b) : a + cmT x a b < x.length ∧ b + cmT x a b < x.length := by
  have := RtL.part (h.drop ha) (h.drop hb) (by rw [List.length_drop, List.length_drop]; omega)
  rw [List.length_drop, List.length_drop] at this
  unfold cmT
  omega
theorem lsT_at {x : List Int} (h : RtL x) {a b : Nat} (ha : a < x.length) (hb : b < x.length) (hab : a ≠ b) : lsT x a b = decide (x.getD (a + cmT x a b) 0 < x.getD (b + cmT x a b) 0) := by
  have h1 := RtL.part (h.drop ha) (h.drop hb) (by rw [List.length_drop, List.length_drop]; omega)
  unfold lsT
  rw [ltL_at h1.1 h1.2, drop_get, drop_get]
  rfl
theorem lsT_irrefl (x : List Int) (a : Nat) : lsT x a a = false := ltL_irrefl _
theorem lsT_trans {x : List Int} {a b c : Nat} (h : lsT x a b = true) (k : lsT x b c = true) : lsT x a c = true := ltL_trans h k
theorem lsT_asymm {x : List Int} {a b : Nat} (h : lsT x a b = true) : lsT x b a = false := ltL_asymm h
theorem lsT_total {x : List Int} {a b : Nat} (ha : a < x.length) (hb : b < x.length) (hab : a ≠ b) : lsT x a b = true ∨ lsT x b a = true :=
  ltL_total fun e => by
    have := congrArg List.length e
    rw [List.length_drop, List.length_drop] at this
    omega
/-- Where the loop that counts stops. -/
theorem cmT_is {x : List Int} {a b n : Nat} (h1 : ∀ i, i < n → a + i < x.length ∧ b + i < x.length ∧ x.getD (a + i) 0 = x.getD (b + i) 0) (h2 : ¬ (a + n < x.length ∧ b + n < x.length ∧ x.getD (a + n) 0 = x.getD (b + n) 0)) : cmT x a b = n := by
  refine cmL_is (fun i hi => ?_) fun h => h2 ?_
  · have := h1 i hi
    rw [List.length_drop, List.length_drop, drop_get, drop_get]
    exact ⟨by omega, by omega, this.2.2⟩
  · rw [List.length_drop, List.length_drop, drop_get, drop_get] at h
    exact ⟨by omega, by omega, h.2.2⟩
instance (x : List Int) : Decidable (RtL x) := inferInstanceAs (Decidable (_ ∧ _))
/-- What is wrong with a text. -/
def ckT (x : List Int) : Nat := if 65536 < x.length then 2 else if ¬ (∀ z ∈ x, 0 ≤ z ∧ z ≤ 65535) then 10 else if RtL x then 0 else 3
theorem ckT_zero {x : List Int} (h : ckT x = 0) : x.length ≤ 65536 ∧ (∀ z ∈ x, 0 ≤ z ∧ z ≤ 65535) ∧ RtL x := by
  unfold ckT at h
  split at h
  · cases h
  · split at h
    · cases h
    · rename_i h1 h2
      split at h
      · rename_i h3; exact ⟨by omega, by simpa using h2, h3⟩
      · cases h
/-- The kinds. -/
def kdT (x : List Int) (i : Nat) : Bool := decide (i + 1 = x.length) || lsT x i (i + 1)
def kindsT (x : List Int) : List Bool := (List.range x.length).map (kdT x)
/-- The first Ss below n. -/
def fsT (x : List Int) : Nat → List Nat
  | 0 => []
  | n + 1 => if 0 < n ∧ kdT x n = true ∧ kdT x (n - 1) = false then fsT x n ++ [n] else fsT x n
/-- The order, place by place. -/
def insT (x : List Int) (l : List Nat) (i : Nat) : List Nat := l.takeWhile (fun j => lsT x j i) ++ i :: l.dropWhile (fun j => lsT x j i)
def srT (x : List Int) : Nat → List Nat
  | 0 => []
  | n + 1 => insT x (srT x n) n
theorem insT_mem {x : List Int} {l : List Nat} {i j : Nat} : j ∈ insT x l i ↔ j = i ∨ j ∈ l := by
  unfold insT
  rw [List.mem_append, List.mem_cons]
  conv => rhs; rw [← List.takeWhile_append_dropWhile (p := fun j => lsT x j i) (l := l), List.mem_append]
  constructor
  · rintro (h | h | h)
    · exact .inr (.inl h)
    · exact .inl h
    · exact .inr (.inr h)
  · rintro (h | h | h)
    · exact .inr (.inl h)
    · exact .inl h
    · exact .inr (.inr h)
theorem insT_len {x : List Int} {l : List Nat} {i : Nat} : (insT x l i).length = l.length + 1 := by
  unfold insT
  have := congrArg List.length (List.takeWhile_append_dropWhile (p := fun j => lsT x j i) (l := l))
  rw [List.length_append] at this
  rw [List.length_append, List.length_cons]
  omega
theorem srT_mem {x : List Int} : ∀ {n j : Nat}, j ∈ srT x n ↔ j < n
  | 0, j => by simp [srT]
  | n + 1, j => by
    show j ∈ insT x (srT x n) n ↔ _
    rw [insT_mem, srT_mem]
    omega
theorem srT_len {x : List Int} : ∀ n, (srT x n).length = n
  | 0 => rfl
  | n + 1 => by
    show (insT x (srT x n) n).length = _
    rw [insT_len, srT_len]
theorem insT_sorted {x : List Int} {l : List Nat} {i : Nat} (h : l.Pairwise fun a b => lsT x a b = true) (ht : ∀ j ∈ l, lsT x j i = true ∨ lsT x i j = true) : (insT x l i).Pairwise fun a b => lsT x a b = true := by
  induction l with
  | nil => exact List.pairwise_singleton _ _
  | cons a l ih =>
    rw [List.pairwise_cons] at h
    unfold insT
    by_cases ha : lsT x a i = true
    · rw [List.takeWhile_cons_of_pos (p := fun j => lsT x j i) ha, List.dropWhile_cons_of_pos (p := fun j => lsT x j i) ha, List.cons_append, List.pairwise_cons]
      refine ⟨fun b hb => ?_, ih h.2 fun j hj => ht j (List.mem_cons_of_mem _ hj)⟩
      have hb2 : b ∈ insT x l i := hb
      rcases insT_mem.1 hb2 with rfl | hb2
      · exact ha
      · exact h.1 b hb2
    · rw [List.takeWhile_cons_of_neg (p := fun j => lsT x j i) ha, List.dropWhile_cons_of_neg (p := fun j => lsT x j i) ha, List.nil_append, List.pairwise_cons]
      have hia : lsT x i a = true := (ht a (by simp)).resolve_left ha
      refine ⟨fun b hb => ?_, by rw [List.pairwise_cons]; exact h⟩
      rcases List.mem_cons.1 hb with rfl | hb
      · exact hia
      · exact lsT_trans hia (h.1 b hb)
theorem srT_sorted {x : List Int} : ∀ {n : Nat}, n ≤ x.length → (srT x n).Pairwise fun a b => lsT x a b = true
  | 0, _ => List.Pairwise.nil
  | n + 1, h => insT_sorted (srT_sorted (by omega)) fun j hj => by
    have := srT_mem.1 hj
    exact lsT_total (by omega) (by omega) (by omega)
/-- Two rising lists of the same places are one. -/
theorem rise_one {x : List Int} : ∀ {l k : List Nat}, (l.Pairwise fun a b => lsT x a b = true) → (k.Pairwise fun a b => lsT x a b = true) → (∀ j, j ∈ l ↔ j ∈ k) → l = k
  | [], [], _, _, _ => rfl
  | [], b :: k, _, _, h => by have := (h b).2 (by simp); cases this
  | a :: l, [], _, _, h => by have := (h a).1 (by simp); cases this
  | a :: l, b :: k, hl, hk, h => by
    rw [List.pairwise_cons] at hl hk
    have hab : a = b := by
      apply Classical.byContradiction
      intro e
      have h1 : b ∈ l := by
        rcases List.mem_cons.1 ((h b).2 (by simp)) with h1 | h1
        · exact absurd h1.symm e
        · exact h1
      have h2 : a ∈ k := by
        rcases List.mem_cons.1 ((h a).1 (by simp)) with h1 | h1
        · exact absurd h1 e
        · exact h1
      have h3 := lsT_asymm (hl.1 b h1)
      rw [hk.1 a h2] at h3
      cases h3
    subst hab
    congr 1
    refine rise_one hl.2 hk.2 fun j => ?_
    have hj := h j
    constructor
    · intro h1
      rcases List.mem_cons.1 (hj.1 (List.mem_cons_of_mem _ h1)) with rfl | h2
      · have := hl.1 j h1; rw [lsT_irrefl] at this; cases this
      · exact h2
    · intro h1
      rcases List.mem_cons.1 (hj.2 (List.mem_cons_of_mem _ h1)) with rfl | h2
      · have := hk.1 j h1; rw [lsT_irrefl] at this; cases this
      · exact h2
/-- The order is the one list of all places that rises. -/
theorem srT_is {x : List Int} {l : List Nat} (h1 : l.Pairwise fun a b => lsT x a b = true) (h2 : ∀ j, j ∈ l ↔ j < x.length) : l = srT x x.length :=
  rise_one h1 (srT_sorted (Nat.le_refl _)) fun j => by rw [h2, srT_mem]
/-- The last place is the first one in order. -/
theorem srT_head {x : List Int} (h : ckT x = 0) : (srT x x.length).getD 0 0 = x.length - 1 := by
  obtain ⟨_, hz, hr⟩ := ckT_zero h
  have hp := hr.1
  have hs := srT_sorted (x := x) (Nat.le_refl _)
  have hl := srT_len (x := x) x.length
  have hm : x.length - 1 ∈ srT x x.length := srT_mem.2 (by omega)
  cases hh : srT x x.length with
  | nil => rw [hh] at hl; simp at hl; omega
  | cons a l =>
    rw [hh] at hs hm
    rw [List.pairwise_cons] at hs
    show a = x.length - 1
    rcases List.mem_cons.1 hm with e | hm
    · exact e.symm
    · have h1 := hs.1 _ hm
      have ha : a < x.length := srT_mem.1 (by rw [hh]; simp)
      by_cases e : a = x.length - 1
      · exact e
      · have h2 : lsT x (x.length - 1) a = true := by
          have hd : x.drop (x.length - 1) = [0] := by
            rw [List.drop_eq_getElem_cons (by omega)]
            have h3 := (hr.2 (x.length - 1) (by omega)).2 (by omega)
            rw [List.getD_eq_getElem?_getD, List.getElem?_eq_getElem (by omega)] at h3
            have h4 : x[x.length - 1] = 0 := h3
            rw [h4, List.drop_of_length_le (by omega)]
          have h3 : x.drop a = x.getD a 0 :: x.drop (a + 1) := by
            rw [List.drop_eq_getElem_cons ha, List.getD_eq_getElem?_getD, List.getElem?_eq_getElem ha]; rfl
          have h4 : x.getD a 0 ≠ 0 := fun e2 => by have := (hr.2 a ha).1 e2; omega
          have h5 : 0 ≤ x.getD a 0 := by
            rw [List.getD_eq_getElem?_getD, List.getElem?_eq_getElem ha]
            exact (hz _ (List.getElem_mem ha)).1
          unfold lsT
          rw [hd, h3, ltL_cons]
          exact .inl (by omega)
        rw [lsT_asymm h1] at h2; cases h2
theorem nodup_rise {x : List Int} {l : List Nat} (h : l.Pairwise fun a b => lsT x a b = true) : l.Nodup := by
  refine h.imp fun {a b} hab e => ?_
  subst e
  rw [lsT_irrefl] at hab; cases hab
end Go.Inc
