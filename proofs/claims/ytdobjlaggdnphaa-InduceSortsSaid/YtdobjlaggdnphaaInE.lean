/- INDUCING, PLAIN: pieces, told with their kinds; comparing them; what any order that is induced goes by. -/
import Derived.Test.YtdobjlaggdnphaaInD
namespace Go.Inc
/-- Is a list of numbers less than another one? -/
def ltN : List Nat → List Nat → Bool
  | a :: as, b :: bs => decide (a < b) || (decide (a = b) && ltN as bs)
  | [], _ :: _ => true
  | _, [] => false
theorem ltN_cons (a b : Nat) (as bs : List Nat) : ltN (a :: as) (b :: bs) = true ↔ a < b ∨ (a = b ∧ ltN as bs = true) := by
  show (decide (a < b) || (decide (a = b) && ltN as bs)) = true ↔ _
  simp
theorem ltN_irrefl : ∀ A : List Nat, ¬ ltN A A = true
  | [] => fun h => by cases h
  | a :: as => fun h => by
    rw [ltN_cons] at h
    rcases h with h | h
    · omega
    · exact ltN_irrefl as h.2
theorem ltN_trans : ∀ {A B C : List Nat}, ltN A B = true → ltN B C = true → ltN A C = true
  | [], [], _, h, _ => by cases h
  | [], _ :: _, [], _, h => by cases h
  | [], _ :: _, _ :: _, _, _ => rfl
  | _ :: _, [], _, h, _ => by cases h
  | _ :: _, _ :: _, [], _, h => by cases h
  | a :: as, b :: bs, c :: cs, h, k => by
    rw [ltN_cons] at h k ⊢
    rcases h with h | ⟨rfl, h⟩
    · rcases k with k | ⟨rfl, k⟩
      · exact .inl (by omega)
      · exact .inl h
    · rcases k with k | ⟨rfl, k⟩
      · exact .inl k
      · exact .inr ⟨rfl, ltN_trans h k⟩
theorem ltN_total : ∀ {A B : List Nat}, ¬ ltN A B = true → ¬ ltN B A = true → A = B
  | [], [], _, _ => rfl
  | [], _ :: _, h, _ => absurd rfl h
  | _ :: _, [], _, h => absurd rfl h
  | a :: as, b :: bs, h, k => by
    rw [ltN_cons] at h k
    have e : a = b := by
      rcases Nat.lt_trichotomy a b with h1 | h1 | h1
      · exact absurd (.inl h1) h
      · exact h1
      · exact absurd (.inl h1) k
    subst e
    rw [ltN_total (fun h1 => h (.inr ⟨rfl, h1⟩)) fun h1 => k (.inr ⟨rfl, h1⟩)]
/-- The document's comparing: below 0 if the first one is less; one that the other one begins with is greater. -/
def cmpP : List Int → List Int → Int
  | a :: as, b :: bs => if a = b then cmpP as bs else a - b
  | [], bs => bs.length
  | as, [] => -(as.length : Int)
theorem cmpP_cons (a b : Int) (as bs : List Int) : cmpP (a :: as) (b :: bs) = if a = b then cmpP as bs else a - b := rfl
theorem cmpP_self : ∀ A : List Int, cmpP A A = 0
  | [] => rfl
  | a :: as => by rw [cmpP_cons, if_pos rfl]; exact cmpP_self as
theorem cmpP_turn : ∀ A B : List Int, cmpP A B = - cmpP B A
  | [], [] => rfl
  | [], _ :: _ => by show ((_ :: _ : List Int).length : Int) = - (- ((_ :: _ : List Int).length : Int)); omega
  | _ :: _, [] => rfl
  | a :: as, b :: bs => by
    rw [cmpP_cons, cmpP_cons]
    by_cases h : a = b
    · rw [if_pos h, if_pos h.symm]; exact cmpP_turn as bs
    · rw [if_neg h, if_neg (fun e => h e.symm)]; omega
section
variable (n : Nat) (c : Nat → Nat) (K : Nat → Bool)
/-- A code with its kind. -/
def kc (i : Nat) : Nat := 2 * c i + (if K i = true then 1 else 0)
/-- What the first scan goes by: up to the next S; what the second one goes by: a piece. -/
def e2F : Nat → Nat → List Nat
  | 0, i => [kc c K i]
  | d + 1, i => if K i = true then [kc c K i] else kc c K i :: e2F d (i + 1)
def e3F : Nat → Nat → List Nat
  | 0, i => [kc c K i]
  | d + 1, i => if K i = true then kc c K i :: e3F d (i + 1) else kc c K i :: e2F c K d (i + 1)
def e2P (i : Nat) : List Nat := e2F c K (n - 1 - i) i
def e3P (i : Nat) : List Nat := e3F c K (n - 1 - i) i
end
section
variable {n : Nat} {c : Nat → Nat} {K : Nat → Bool}
theorem e2_S {i : Nat} (hk : K i = true) : e2P n c K i = [kc c K i] := by
  unfold e2P
  cases n - 1 - i with
  | zero => rfl
  | succ d => show (if K i = true then _ else _) = _; rw [if_pos hk]
theorem e2_L (h : Txt n c K) {i : Nat} (hi : i < n) (hk : K i = false) : e2P n c K i = kc c K i :: e2P n c K (i + 1) := by
  have h1 := (h.L hi hk).1
  unfold e2P
  rw [show n - 1 - i = (n - 1 - (i + 1)) + 1 by omega]
  show (if K i = true then _ else _) = _
  rw [if_neg (by rw [hk]; simp)]
theorem e3_L (h : Txt n c K) {i : Nat} (hi : i < n) (hk : K i = false) : e3P n c K i = e2P n c K i := by
  have h1 := (h.L hi hk).1
  rw [e2_L h hi hk]
  unfold e3P e2P
  rw [show n - 1 - i = (n - 1 - (i + 1)) + 1 by omega]
  show (if K i = true then _ else _) = _
  rw [if_neg (by rw [hk]; simp)]
theorem e3_S {i : Nat} (hi : i + 1 < n) (hk : K i = true) : e3P n c K i = kc c K i :: e3P n c K (i + 1) := by
  unfold e3P
  rw [show n - 1 - i = (n - 1 - (i + 1)) + 1 by omega]
  show (if K i = true then _ else _) = _
  rw [if_pos hk]
theorem e3_last (h : Txt n c K) : e3P n c K (n - 1) = [1] := by
  unfold e3P
  rw [Nat.sub_self]
  show [kc c K (n - 1)] = [1]
  unfold kc
  rw [h.last, (h.zero (n - 1) (by have := h.pos; omega)).2 (by have := h.pos; omega)]
  rfl
theorem e2_head (h : Txt n c K) {i : Nat} (hi : i < n) : ∃ t, e2P n c K i = kc c K i :: t := by
  cases hk : K i with
  | true => exact ⟨_, e2_S hk⟩
  | false => exact ⟨_, e2_L h hi hk⟩
theorem e3_head (h : Txt n c K) {i : Nat} (hi : i < n) : ∃ t, e3P n c K i = kc c K i :: t := by
  by_cases hl : i + 1 < n
  · cases hk : K i with
    | true => exact ⟨_, e3_S hl hk⟩
    | false => rw [e3_L h hi hk]; exact e2_head h hi
  · obtain rfl : i = n - 1 := by omega
    rw [e3_last h]
    refine ⟨[], ?_⟩
    unfold kc
    rw [h.last, (h.zero (n - 1) (by have := h.pos; omega)).2 (by have := h.pos; omega)]
    rfl
def leE (e : Nat → List Nat) (i j : Nat) : Prop := ¬ ltN (e j) (e i) = true
theorem leE_head {e : Nat → List Nat} {i j a b : Nat} {as bs : List Nat} (hi : e i = a :: as) (hj : e j = b :: bs) (h : a < b) : leE e i j := by
  unfold leE
  rw [hi, hj, ltN_cons]
  rintro (h1 | ⟨h1, -⟩) <;> omega
theorem kc_lt {i j : Nat} (h : c i < c j) : kc c K i < kc c K j := by
  unfold kc; split <;> split <;> omega
theorem kc_kind {i j : Nat} (h : c i = c j) (h1 : K i = false) (h2 : K j = true) : kc c K i < kc c K j := by
  unfold kc; rw [h1, h2, h]; simp
theorem kc_eq {i j : Nat} : kc c K i = kc c K j ↔ c i = c j ∧ K i = K j := by
  unfold kc
  constructor
  · intro h
    cases h1 : K i <;> cases h2 : K j <;> rw [h1, h2] at h <;> simp at h <;> first | (exact ⟨by omega, rfl⟩) | omega
  · rintro ⟨h1, h2⟩; rw [h1, h2]
theorem Txt.byP (h : Txt n c K) : ByR n c K (leE (e2P n c K)) (leE (e3P n c K)) where
  code i j hi hj hc := by
    obtain ⟨s, hs⟩ := e2_head h hi
    obtain ⟨t, ht⟩ := e2_head h hj
    exact leE_head hs ht (kc_lt hc)
  code' i j hi hj hc := by
    obtain ⟨s, hs⟩ := e3_head h hi
    obtain ⟨t, ht⟩ := e3_head h hj
    exact leE_head hs ht (kc_lt hc)
  kind i j hi hj hc h1 h2 := by
    obtain ⟨s, hs⟩ := e2_head h hi
    obtain ⟨t, ht⟩ := e2_head h hj
    exact leE_head hs ht (kc_kind hc h1 h2)
  kind' i j hi hj hc h1 h2 := by
    obtain ⟨s, hs⟩ := e3_head h hi
    obtain ⟨t, ht⟩ := e3_head h hj
    exact leE_head hs ht (kc_kind hc h1 h2)
  step i j hi hj hc h1 h2 hl := by
    unfold leE at hl ⊢
    rw [e2_L h (show i < n by omega) h1, e2_L h (show j < n by omega) h2, ltN_cons]
    rintro (h3 | ⟨-, h3⟩)
    · have := (kc_eq (c := c) (K := K)).2 ⟨hc, h1.trans h2.symm⟩; omega
    · exact hl h3
  step' i j hi hj hc h1 h2 hl := by
    unfold leE at hl ⊢
    rw [e3_S hi h1, e3_S hj h2, ltN_cons]
    rintro (h3 | ⟨-, h3⟩)
    · have := (kc_eq (c := c) (K := K)).2 ⟨hc, h1.trans h2.symm⟩; omega
    · exact hl h3
  both i j hi hj _ h1 h2 hl := by
    unfold leE at hl ⊢
    rw [e3_L h hi h1, e3_L h hj h2]; exact hl
/-- Codes of such a list. -/
def cdE (l : List Nat) : List Int := l.map fun v : Nat => ((v / 2 : Nat) : Int)
theorem kc_half (i : Nat) : kc c K i / 2 = c i := by
  unfold kc; split <;> omega
theorem cdE_cons (i : Nat) (l : List Nat) : cdE (kc c K i :: l) = (c i : Int) :: cdE l := by
  show (((kc c K i / 2 : Nat)) : Int) :: cdE l = _
  rw [kc_half]
theorem cdE_len (l : List Nat) : (cdE l).length = l.length := by simp [cdE]
/-- One of kind L is less than one of kind S, if their codes are the same: whether the S goes on or not. -/
theorem cmp_ls (h : Txt n c K) : ∀ d i j, n = i + d → i < n → j < n → c i = c j → K i = false → K j = true → cmpP (cdE (e2P n c K i)) (cdE (e2P n c K j)) < 0 ∧ cmpP (cdE (e2P n c K i)) (cdE (e3P n c K j)) < 0
  | 0, i, j, h1, h2, _, _, _, _ => by omega
  | d + 1, i, j, h1, h2, h3, h4, h5, h6 => by
    obtain ⟨h7, h8, h9⟩ := h.L h2 h5
    have hj : j + 1 < n := by
      refine Classical.byContradiction fun h10 => ?_
      have h11 := (h.zero j h3).2 (by omega)
      rw [← h4] at h11
      have h12 := (h.zero i h2).1 h11
      omega
    obtain ⟨h10, h11⟩ := h.S hj h6
    obtain ⟨t, ht⟩ := e2_head h h7
    rw [e2_L h h2 h5, e2_S h6, e3_S hj h6, cdE_cons, cdE_cons, cdE_cons, cmpP_cons, cmpP_cons, if_pos (by omega), if_pos (by omega)]
    constructor
    · rw [ht, cdE_cons]
      show -(((c (i + 1) : Int) :: cdE t).length : Int) < 0
      rw [List.length_cons]; omega
    · by_cases h12 : c (i + 1) < c (j + 1)
      · obtain ⟨u, hu⟩ := e3_head h hj
        rw [ht, hu, cdE_cons, cdE_cons, cmpP_cons, if_neg (by omega)]
        omega
      · exact (cmp_ls h d (i + 1) (j + 1) (by omega) h7 hj (by omega) (h9 (by omega)) (h11 (by omega)).1).2
theorem cmp_e2 (h : Txt n c K) : ∀ d i j, n = i + d → i < n → j < n → ltN (e2P n c K i) (e2P n c K j) = true → cmpP (cdE (e2P n c K i)) (cdE (e2P n c K j)) < 0
  | 0, i, j, h1, h2, _, _ => by omega
  | d + 1, i, j, h1, h2, h3, h4 => by
    rcases Nat.lt_trichotomy (c i) (c j) with h5 | h5 | h5
    · obtain ⟨s, hs⟩ := e2_head h h2
      obtain ⟨t, ht⟩ := e2_head h h3
      rw [hs, ht, cdE_cons, cdE_cons, cmpP_cons, if_neg (by omega)]
      omega
    · cases hi : K i with
      | false =>
        cases hj : K j with
        | true => exact (cmp_ls h (d + 1) i j h1 h2 h3 h5 hi hj).1
        | false =>
          rw [e2_L h h2 hi, e2_L h h3 hj, ltN_cons] at h4
          rw [e2_L h h2 hi, e2_L h h3 hj, cdE_cons, cdE_cons, cmpP_cons, if_pos (by omega)]
          have he := (kc_eq (c := c) (K := K)).2 ⟨h5, hi.trans hj.symm⟩
          rcases h4 with h4 | ⟨-, h4⟩
          · omega
          · exact cmp_e2 h d (i + 1) (j + 1) (by omega) (h.L h2 hi).1 (h.L h3 hj).1 h4
      | true =>
        obtain ⟨t, ht⟩ := e2_head h h3
        rw [e2_S hi, ht, ltN_cons] at h4
        cases hj : K j with
        | true =>
          have he := (kc_eq (c := c) (K := K)).2 ⟨h5, hi.trans hj.symm⟩
          rw [e2_S hj] at ht
          cases ht
          rcases h4 with h4 | ⟨-, h4⟩
          · omega
          · cases h4
        | false =>
          have := kc_kind (K := K) h5.symm hj hi
          rcases h4 with h4 | ⟨h4, -⟩ <;> omega
    · obtain ⟨s, hs⟩ := e2_head h h2
      obtain ⟨t, ht⟩ := e2_head h h3
      have := kc_lt (K := K) h5
      rw [hs, ht, ltN_cons] at h4
      rcases h4 with h4 | ⟨h4, -⟩ <;> omega
/-- A piece that is less, with its kinds, is less by the document's comparing. -/
theorem cmp_e3 (h : Txt n c K) : ∀ d i j, n = i + d → i < n → j < n → ltN (e3P n c K i) (e3P n c K j) = true → cmpP (cdE (e3P n c K i)) (cdE (e3P n c K j)) < 0
  | 0, i, j, h1, h2, _, _ => by omega
  | d + 1, i, j, h1, h2, h3, h4 => by
    rcases Nat.lt_trichotomy (c i) (c j) with h5 | h5 | h5
    · obtain ⟨s, hs⟩ := e3_head h h2
      obtain ⟨t, ht⟩ := e3_head h h3
      rw [hs, ht, cdE_cons, cdE_cons, cmpP_cons, if_neg (by omega)]
      omega
    · cases hi : K i with
      | false =>
        rw [e3_L h h2 hi] at h4 ⊢
        cases hj : K j with
        | true => exact (cmp_ls h (d + 1) i j h1 h2 h3 h5 hi hj).2
        | false =>
          rw [e3_L h h3 hj] at h4 ⊢
          exact cmp_e2 h (d + 1) i j h1 h2 h3 h4
      | true =>
        cases hj : K j with
        | false =>
          obtain ⟨s, hs⟩ := e3_head h h2
          obtain ⟨t, ht⟩ := e3_head h h3
          have := kc_kind (K := K) h5.symm hj hi
          rw [hs, ht, ltN_cons] at h4
          rcases h4 with h4 | ⟨h4, -⟩ <;> omega
        | true =>
          by_cases hin : i + 1 < n
          · have hjn : j + 1 < n := by
              refine Classical.byContradiction fun h6 => ?_
              have h7 := (h.zero j h3).2 (by omega)
              rw [← h5] at h7
              have := (h.zero i h2).1 h7
              omega
            rw [e3_S hin hi, e3_S hjn hj, ltN_cons] at h4
            rw [e3_S hin hi, e3_S hjn hj, cdE_cons, cdE_cons, cmpP_cons, if_pos (by omega)]
            have he := (kc_eq (c := c) (K := K)).2 ⟨h5, hi.trans hj.symm⟩
            rcases h4 with h4 | ⟨-, h4⟩
            · omega
            · exact cmp_e3 h d (i + 1) (j + 1) (by omega) hin hjn h4
          · have h7 := (h.zero i h2).2 (by omega)
            rw [h5] at h7
            have h8 := (h.zero j h3).1 h7
            have e : i = j := by omega
            rw [e] at h4
            exact absurd h4 (ltN_irrefl _)
    · obtain ⟨s, hs⟩ := e3_head h h2
      obtain ⟨t, ht⟩ := e3_head h h3
      have := kc_lt (K := K) h5
      rw [hs, ht, ltN_cons] at h4
      rcases h4 with h4 | ⟨h4, -⟩ <;> omega
theorem cmp_is (h : Txt n c K) {i j : Nat} (hi : i < n) (hj : j < n) : (cmpP (cdE (e3P n c K i)) (cdE (e3P n c K j)) < 0 ↔ ltN (e3P n c K i) (e3P n c K j) = true) ∧ (cmpP (cdE (e3P n c K i)) (cdE (e3P n c K j)) = 0 ↔ e3P n c K i = e3P n c K j) := by
  by_cases h1 : ltN (e3P n c K i) (e3P n c K j) = true
  · have h2 := cmp_e3 h (n - i) i j (by omega) hi hj h1
    refine ⟨⟨fun _ => h1, fun _ => h2⟩, fun h3 => by omega, fun h3 => ?_⟩
    rw [h3] at h1
    exact absurd h1 (ltN_irrefl _)
  · by_cases h2 : ltN (e3P n c K j) (e3P n c K i) = true
    · have h3 := cmp_e3 h (n - j) j i (by omega) hj hi h2
      rw [cmpP_turn] at h3
      refine ⟨⟨fun h4 => by omega, fun h4 => absurd h4 h1⟩, fun h4 => by omega, fun h4 => ?_⟩
      rw [h4] at h2
      exact absurd h2 (ltN_irrefl _)
    · have h3 := ltN_total h1 h2
      rw [h3, cmpP_self]
      exact ⟨⟨fun h4 => by omega, fun h4 => absurd h4 (ltN_irrefl _)⟩, fun _ => rfl, fun _ => rfl⟩
end
end Go.Inc
