/- PLAIN FACTS OF DOUBLING: ranks that tell suffixes apart by their first codes; sorted by two ranks; ranked anew. No program is named here. -/
import Derived.Test.YtclpoconppmapaaSuK
namespace Go.Inc
open Go.RowKit
theorem cmT_symm {x : List Int} {a b : Nat} : cmT x a b = cmT x b a := by
  have key : ∀ A B : List Int, cmL A B = cmL B A := by
    intro A
    induction A with
    | nil => intro B; cases B <;> rfl
    | cons a A ih =>
      intro B
      cases B with
      | nil => rfl
      | cons b B =>
        show (if a = b then _ else _) = (if b = a then _ else _)
        by_cases e : a = b
        · subst e; rw [if_pos rfl, if_pos rfl, ih]
        · rw [if_neg e, if_neg (fun h => e h.symm)]
  exact key _ _
/-- The ranks tell two places apart just if their first w codes do. -/
def RkOk (x : List Int) (w : Nat) (R : List Int) : Prop := R.length = x.length ∧ ∀ i j, i < x.length → j < x.length → i ≠ j → (R.getD i 0 < R.getD j 0 ↔ cmT x i j < w ∧ lsT x i j = true)
theorem RkOk.same {x R : List Int} {w i j : Nat} (h : RkOk x w R) (hi : i < x.length) (hj : j < x.length) (hn : i ≠ j) : R.getD i 0 = R.getD j 0 ↔ w ≤ cmT x i j := by
  have h1 := h.2 i j hi hj hn
  have h2 := h.2 j i hj hi (fun e => hn e.symm)
  rw [cmT_symm] at h2
  constructor
  · intro e
    apply Classical.byContradiction
    intro hc
    rcases lsT_total hi hj hn with h3 | h3
    · have := h1.2 ⟨by omega, h3⟩; omega
    · have := h2.2 ⟨by omega, h3⟩; omega
  · intro e
    apply Classical.byContradiction
    intro hc
    rcases Int.lt_or_gt_of_ne hc with h3 | h3
    · have := h1.1 h3; omega
    · have := h2.1 h3; omega
theorem RkOk.one {x : List Int} (hr : RtL x) : RkOk x 1 x := by
  refine ⟨rfl, fun i j hi hj hn => ?_⟩
  have hp := cmT_part hr hi hj hn
  rw [lsT_at hr hi hj hn, decide_eq_true_eq]
  constructor
  · intro h
    have h0 : cmT x i j = 0 := by
      apply cmT_is (fun k hk => by omega)
      rintro ⟨-, -, h2⟩
      rw [Nat.add_zero, Nat.add_zero] at h2
      omega
    rw [h0]
    exact ⟨by omega, by simpa using h⟩
  · rintro ⟨h1, h2⟩
    have h0 : cmT x i j = 0 := by omega
    rw [h0] at h2
    simpa using h2
/-- Behind what they have in common. -/
theorem cmT_shift {x : List Int} {a b w : Nat} (h : w ≤ cmT x a b) (ha : a + cmT x a b ≤ x.length) (hb : b + cmT x a b ≤ x.length) : cmT x (a + w) (b + w) = cmT x a b - w ∧ lsT x (a + w) (b + w) = lsT x a b := by
  have h1 : ∀ i, i < cmT x a b → x.getD (a + i) 0 = x.getD (b + i) 0 := fun i hi => by
    have := cmL_same (x.drop a) (x.drop b) i hi
    rwa [drop_get, drop_get] at this
  constructor
  · apply cmT_is
    · intro i hi
      have := h1 (w + i) (by omega)
      rw [← Nat.add_assoc, ← Nat.add_assoc] at this
      exact ⟨by omega, by omega, this⟩
    · rintro ⟨h2, h3, h4⟩
      have h5 := cmL_next (x.drop a) (x.drop b) (by rw [List.length_drop]; show cmT x a b < _; omega) (by rw [List.length_drop]; show cmT x a b < _; omega)
      rw [drop_get, drop_get] at h5
      apply h5
      show x.getD (a + cmT x a b) 0 = x.getD (b + cmT x a b) 0
      rw [show a + cmT x a b = a + w + (cmT x a b - w) from by omega, show b + cmT x a b = b + w + (cmT x a b - w) from by omega]
      exact h4
  · have h2 := ltL_from (A := x.drop a) (B := x.drop b) (k := w) (by rw [List.length_drop]; omega) (by rw [List.length_drop]; omega) (fun j hj => by rw [drop_get, drop_get]; exact h1 j (by omega))
    rw [List.drop_drop, List.drop_drop] at h2
    exact h2.symm
theorem RkOk.in {x R : List Int} {w a b : Nat} (h : RkOk x w R) (hr : RtL x) (ha : a < x.length) (hb : b < x.length) (he : R.getD a 0 = R.getD b 0) (hn : a ≠ b) : a + w < x.length ∧ b + w < x.length := by
  have h1 := (h.same ha hb hn).1 he
  have h2 := cmT_part hr ha hb hn
  omega
/-- Two ranks tell apart by twice as many codes. -/
theorem RkOk.two {x R : List Int} {w : Nat} (h : RkOk x w R) (hr : RtL x) {a b : Nat} (ha : a < x.length) (hb : b < x.length) (hn : a ≠ b) :
    (R.getD a 0 < R.getD b 0 ∨ (R.getD a 0 = R.getD b 0 ∧ R.getD (a + w) 0 < R.getD (b + w) 0)) ↔ cmT x a b < 2 * w ∧ lsT x a b = true := by
  have h1 := h.2 a b ha hb hn
  have h2 := h.same ha hb hn
  have hp := cmT_part hr ha hb hn
  by_cases e : w ≤ cmT x a b
  · have h3 := cmT_shift (w := w) e (by omega) (by omega)
    have h4 := h.2 (a + w) (b + w) (by omega) (by omega) (by omega)
    rw [h3.1, h3.2] at h4
    have h5 := h2.2 e
    constructor
    · rintro (h6 | ⟨-, h6⟩)
      · omega
      · have := h4.1 h6
        exact ⟨by omega, this.2⟩
    · rintro ⟨h6, h7⟩
      exact .inr ⟨h5, h4.2 ⟨by omega, h7⟩⟩
  · constructor
    · rintro (h6 | ⟨h6, -⟩)
      · have := h1.1 h6
        exact ⟨by omega, this.2⟩
      · exact absurd (h2.1 h6) e
    · rintro ⟨-, h7⟩
      exact .inl (h1.2 ⟨by omega, h7⟩)
/-- How the closure compares. -/
def cfS (R : List Int) (w a b : Nat) : Int := if R.getD a 0 = R.getD b 0 ∧ a ≠ b then cmpI (R.getD (a + w) 0) (R.getD (b + w) 0) else cmpI (R.getD a 0) (R.getD b 0)
theorem cmpI_lt (a b : Int) : cmpI a b < 0 ↔ a < b := by unfold cmpI; split; omega; split <;> omega
theorem cmpI_zero (a b : Int) : cmpI a b = 0 ↔ a = b := by unfold cmpI; split; omega; split <;> omega
theorem cfS_lt (R : List Int) (w a b : Nat) : cfS R w a b < 0 ↔ R.getD a 0 < R.getD b 0 ∨ (R.getD a 0 = R.getD b 0 ∧ R.getD (a + w) 0 < R.getD (b + w) 0) := by
  unfold cfS
  split
  · rename_i h; rw [cmpI_lt]; omega
  · rename_i h
    rw [cmpI_lt]
    by_cases e : a = b
    · subst e; omega
    · omega
theorem cfS_zero (R : List Int) (w a b : Nat) : cfS R w a b = 0 ↔ R.getD a 0 = R.getD b 0 ∧ R.getD (a + w) 0 = R.getD (b + w) 0 := by
  unfold cfS
  split
  · rename_i h; rw [cmpI_zero]; omega
  · rename_i h
    rw [cmpI_zero]
    by_cases e : a = b
    · subst e; omega
    · omega
theorem nodup_at {l : List Nat} (hd : l.Nodup) {i j : Nat} (hi : i < l.length) (hj : j < l.length) (e : l.getD i 0 = l.getD j 0) : i = j := by
  rw [List.getD_eq_getElem?_getD, List.getD_eq_getElem?_getD, List.getElem?_eq_getElem hi, List.getElem?_eq_getElem hj] at e
  have e' : l[i] = l[j] := e
  have h1 := hd.idxOf_getElem i hi
  have h2 := hd.idxOf_getElem j hj
  rw [e', h2] at h1
  exact h1.symm
/-- How many steps up are among the first t. -/
def rkT (cf : Nat → Nat → Int) (l : List Nat) : Nat → Nat
  | 0 => 0
  | t + 1 => rkT cf l t + if 0 < t ∧ cf (l.getD (t - 1) 0) (l.getD t 0) ≠ 0 then 1 else 0
theorem rkT_succ (cf : Nat → Nat → Int) (l : List Nat) (t : Nat) : rkT cf l (t + 1) = rkT cf l t + if 0 < t ∧ cf (l.getD (t - 1) 0) (l.getD t 0) ≠ 0 then 1 else 0 := rfl
theorem rkT_le (cf : Nat → Nat → Int) (l : List Nat) : ∀ t, rkT cf l (t + 1) ≤ t
  | 0 => by rw [rkT_succ]; simp [rkT]
  | t + 1 => by
    have := rkT_le cf l t
    rw [rkT_succ]
    split <;> omega
/-- The first t places' ranks are told. -/
def RkS (cf : Nat → Nat → Int) (l : List Nat) (t : Nat) (R : List Nat) : Prop := R.length = l.length ∧ ∀ k, k < t → R.getD (l.getD k 0) 0 = rkT cf l (k + 1)
theorem RkS.zero (cf : Nat → Nat → Int) (l : List Nat) : RkS cf l 0 (List.replicate l.length 0) := ⟨List.length_replicate, fun k h => by omega⟩
theorem RkS.step {cf : Nat → Nat → Int} {l R : List Nat} {t : Nat} (h : RkS cf l t R) (hd : l.Nodup) (hl : ∀ a ∈ l, a < l.length) (ht : t < l.length) : RkS cf l (t + 1) (R.set (l.getD t 0) (rkT cf l (t + 1))) := by
  obtain ⟨h1, h2⟩ := h
  have hm : ∀ k, k < l.length → l.getD k 0 ∈ l := fun k hk => by
    rw [List.getD_eq_getElem?_getD, List.getElem?_eq_getElem hk]; exact List.getElem_mem hk
  refine ⟨by rw [List.length_set]; exact h1, fun k hk => ?_⟩
  rw [setN_at (by rw [h1]; exact hl _ (hm t ht))]
  by_cases e : k = t
  · subst e; rw [if_pos rfl]
  · rw [if_neg, h2 k (by omega)]
    intro e2
    exact e (nodup_at hd (by omega) ht e2)
/-- Sorted by two keys, the ranks go by the keys. -/
theorem rk_keys {cf : Nat → Nat → Int} {l : List Nat} {K1 K2 : Nat → Int} (hz : ∀ a b, cf a b = 0 ↔ K1 a = K1 b ∧ K2 a = K2 b)
    (hs : ∀ k, k + 1 < l.length → ¬ (K1 (l.getD (k + 1) 0) < K1 (l.getD k 0) ∨ (K1 (l.getD (k + 1) 0) = K1 (l.getD k 0) ∧ K2 (l.getD (k + 1) 0) < K2 (l.getD k 0)))) :
    ∀ d p, p + d < l.length → ¬ (K1 (l.getD (p + d) 0) < K1 (l.getD p 0) ∨ (K1 (l.getD (p + d) 0) = K1 (l.getD p 0) ∧ K2 (l.getD (p + d) 0) < K2 (l.getD p 0))) ∧ rkT cf l (p + 1) ≤ rkT cf l (p + d + 1) ∧
      (rkT cf l (p + 1) < rkT cf l (p + d + 1) ↔ K1 (l.getD p 0) < K1 (l.getD (p + d) 0) ∨ (K1 (l.getD p 0) = K1 (l.getD (p + d) 0) ∧ K2 (l.getD p 0) < K2 (l.getD (p + d) 0)))
  | 0, p, _ => by
    rw [Nat.add_zero]
    omega
  | d + 1, p, h => by
    have ih := rk_keys hz hs d p (by omega)
    have h1 := hs (p + d) (by omega)
    have h2 := rkT_succ cf l (p + d + 1)
    have h3 := hz (l.getD (p + d) 0) (l.getD (p + d + 1) 0)
    rw [show p + (d + 1) = p + d + 1 from by omega]
    rw [Nat.add_sub_cancel] at h2
    generalize K1 (l.getD (p + d + 1) 0) = a1 at *
    generalize K2 (l.getD (p + d + 1) 0) = a2 at *
    generalize K1 (l.getD (p + d) 0) = b1 at *
    generalize K2 (l.getD (p + d) 0) = b2 at *
    generalize K1 (l.getD p 0) = c1 at *
    generalize K2 (l.getD p 0) = c2 at *
    by_cases e : cf (l.getD (p + d) 0) (l.getD (p + d + 1) 0) = 0
    · rw [if_neg (by rintro ⟨-, h4⟩; exact h4 e)] at h2
      have h4 := h3.1 e
      omega
    · rw [if_pos ⟨by omega, e⟩] at h2
      have h4 : ¬ (b1 = a1 ∧ b2 = a2) := fun h => e (h3.2 h)
      omega
/-- What a round comes to. -/
theorem round_done {x R : List Int} {w : Nat} (h : RkOk x w R) (hr : RtL x) {l : List Nat} (hl : l.length = x.length) (hm : ∀ a, a ∈ l ↔ a < x.length) (hd : l.Nodup)
    (hs : ∀ i j, i < j → j < x.length → ¬ cfS R w (l.getD j 0) (l.getD i 0) < 0) {R' : List Nat} (h' : RkS (cfS R w) l x.length R') :
    RkOk x (2 * w) (zsN R') ∧ (rkT (cfS R w) l x.length + 1 = x.length → l = srT x x.length) ∧ (rkT (cfS R w) l x.length + 1 ≠ x.length → 2 * w < x.length) ∧ rkT (cfS R w) l x.length + 1 ≤ x.length := by
  have h0 := hr.1
  obtain ⟨m, hmm⟩ : ∃ m, x.length = m + 1 := ⟨x.length - 1, by omega⟩
  have hk := rk_keys (cf := cfS R w) (l := l) (K1 := fun a => R.getD a 0) (K2 := fun a => R.getD (a + w) 0) (fun a b => cfS_zero R w a b) (fun k hk => by
    have := hs k (k + 1) (by omega) (by omega)
    rw [cfS_lt] at this
    exact this)
  have hin : ∀ k, k < x.length → l.getD k 0 < x.length := fun k hk => (hm _).1 (by
    rw [List.getD_eq_getElem?_getD, List.getElem?_eq_getElem (by omega)]; exact List.getElem_mem _)
  have hne : ∀ p q, p < q → q < x.length → l.getD p 0 ≠ l.getD q 0 := fun p q hpq hq e => by
    have := nodup_at hd (by omega) (by omega) e
    omega
  have hpl : ∀ i, i < x.length → ∃ p, p < x.length ∧ l.getD p 0 = i := fun i hi => by
    obtain ⟨p, hp, e⟩ := List.mem_iff_getElem.1 ((hm i).2 hi)
    exact ⟨p, by omega, by rw [List.getD_eq_getElem?_getD, List.getElem?_eq_getElem hp]; exact e⟩
  have hle := rkT_le (cfS R w) l m
  rw [← hmm] at hle
  refine ⟨⟨by rw [zsN_len, h'.1, hl], fun i j hi hj hij => ?_⟩, fun hu => ?_, fun hu => ?_, by omega⟩
  · obtain ⟨p, hp, rfl⟩ := hpl i hi
    obtain ⟨q, hq, rfl⟩ := hpl j hj
    have e1 := h'.2 p hp
    have e2 := h'.2 q hq
    have h2 := h.two hr hi hj hij
    rw [zsN_get, zsN_get, e1, e2, ← h2]
    rcases Nat.lt_trichotomy p q with h3 | h3 | h3
    · have h4 := hk (q - p) p (by omega)
      rw [show p + (q - p) = q from by omega] at h4
      have h5 := h4.2.2
      constructor
      · intro h6; exact h5.1 (by omega)
      · intro h6; have := h5.2 h6; omega
    · subst h3; exact absurd rfl hij
    · have h4 := hk (p - q) q (by omega)
      rw [show q + (p - q) = p from by omega] at h4
      constructor
      · intro h6; omega
      · intro h6; exact absurd h6 h4.1
  · have hall : ∀ k, k < x.length → rkT (cfS R w) l (k + 1) = k := by
      have hdn : ∀ d, d ≤ m → rkT (cfS R w) l (m - d + 1) = m - d := by
        intro d
        induction d with
        | zero => intro _; rw [Nat.sub_zero, ← hmm]; omega
        | succ d ih =>
          intro hdm
          have h1 := ih (by omega)
          have h2 := rkT_succ (cfS R w) l (m - d)
          have h3 := rkT_le (cfS R w) l (m - (d + 1))
          rw [show m - (d + 1) + 1 = m - d from by omega] at h3 ⊢
          split at h2 <;> omega
      intro k hk
      have := hdn (m - k) (by omega)
      rwa [show m - (m - k) = k from by omega] at this
    refine srT_is ?_ hm
    rw [List.pairwise_iff_getElem]
    intro p q hp hq hpq
    have h4 := hk (q - p) p (by omega)
    rw [show p + (q - p) = q from by omega, hall p (by omega), hall q (by omega)] at h4
    have h5 := (h.two hr (hin p (by omega)) (hin q (by omega)) (hne p q hpq (by omega))).1 (h4.2.2.1 hpq)
    rw [List.getD_eq_getElem?_getD, List.getD_eq_getElem?_getD, List.getElem?_eq_getElem hp, List.getElem?_eq_getElem hq] at h5
    exact h5.2
  · have hex : ∃ k, k + 1 < x.length ∧ cfS R w (l.getD k 0) (l.getD (k + 1) 0) = 0 := by
      apply Classical.byContradiction
      intro hc
      have hall : ∀ k, k < x.length → rkT (cfS R w) l (k + 1) = k := by
        intro k
        induction k with
        | zero => intro _; rw [rkT_succ]; simp [rkT]
        | succ k ih =>
          intro hk
          rw [rkT_succ, ih (by omega), Nat.add_sub_cancel, if_pos ⟨by omega, fun e => hc ⟨k, hk, e⟩⟩]
      have := hall m (by omega)
      rw [← hmm] at this
      omega
    obtain ⟨k, hk1, he⟩ := hex
    rw [cfS_zero] at he
    have hn := hne k (k + 1) (by omega) hk1
    have h1 := hin k (by omega)
    have h2 := hin (k + 1) hk1
    have h3 := h.two hr h1 h2 hn
    have h4 := h.two hr h2 h1 (fun e => hn e.symm)
    rw [cmT_symm] at h4
    have h5 := cmT_part hr h1 h2 hn
    apply Classical.byContradiction
    intro hc
    rcases lsT_total h1 h2 hn with h6 | h6
    · have := h3.2 ⟨by omega, h6⟩; omega
    · have := h4.2 ⟨by omega, h6⟩; omega
end Go.Inc
