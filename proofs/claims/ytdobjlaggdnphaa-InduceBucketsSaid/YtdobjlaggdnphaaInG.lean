/- INDUCING, PLAIN: the reduced text. -/
import Derived.Test.YtdobjlaggdnphaaInF
import Derived.Test.YtdobjlaggdnphaaSfMt
namespace Go.Inc
/-- What is less by its pieces is the less suffix. -/
theorem e2_ls {x : List Int} (h : InT x) : ∀ d i j, x.length = i + d → i < x.length → j < x.length → ltN (e2P x.length (cdT x) (kdT x) i) (e2P x.length (cdT x) (kdT x) j) = true → lsT x i j = true
  | 0, i, j, h1, h2, _, _ => by omega
  | d + 1, i, j, h1, h2, h3, h4 => by
    have hT := h.txt
    obtain ⟨s, hs⟩ := e2_head hT h2
    obtain ⟨t, ht⟩ := e2_head hT h3
    rw [lsT_step h2 h3, h.cd h2, h.cd h3]
    rcases Nat.lt_trichotomy (cdT x i) (cdT x j) with h5 | h5 | h5
    · exact .inl (by omega)
    · cases hi : kdT x i with
      | false =>
        cases hj : kdT x j with
        | true =>
          have := h.ls (d + 1) i j h1 h2 h3 h5 hi hj
          rw [lsT_step h2 h3, h.cd h2, h.cd h3] at this
          exact this
        | false =>
          rw [e2_L hT h2 hi, e2_L hT h3 hj, ltN_cons] at h4
          have he := (kc_eq (c := cdT x) (K := kdT x)).2 ⟨h5, hi.trans hj.symm⟩
          rcases h4 with h4 | ⟨-, h4⟩
          · omega
          · exact .inr ⟨by omega, e2_ls h d (i + 1) (j + 1) (by omega) (hT.L h2 hi).1 (hT.L h3 hj).1 h4⟩
      | true =>
        rw [e2_S hi, ht, ltN_cons] at h4
        cases hj : kdT x j with
        | true =>
          have he := (kc_eq (c := cdT x) (K := kdT x)).2 ⟨h5, hi.trans hj.symm⟩
          rw [e2_S hj] at ht
          cases ht
          rcases h4 with h4 | ⟨-, h4⟩
          · omega
          · cases h4
        | false =>
          have := kc_kind (K := kdT x) h5.symm hj hi
          rcases h4 with h4 | ⟨h4, -⟩ <;> omega
    · have := kc_lt (K := kdT x) h5
      rw [hs, ht, ltN_cons] at h4
      rcases h4 with h4 | ⟨h4, -⟩ <;> omega
theorem e3_ls {x : List Int} (h : InT x) : ∀ d i j, x.length = i + d → i < x.length → j < x.length → ltN (e3P x.length (cdT x) (kdT x) i) (e3P x.length (cdT x) (kdT x) j) = true → lsT x i j = true
  | 0, i, j, h1, h2, _, _ => by omega
  | d + 1, i, j, h1, h2, h3, h4 => by
    have hT := h.txt
    obtain ⟨s, hs⟩ := e3_head hT h2
    obtain ⟨t, ht⟩ := e3_head hT h3
    rcases Nat.lt_trichotomy (cdT x i) (cdT x j) with h5 | h5 | h5
    · rw [lsT_step h2 h3, h.cd h2, h.cd h3]
      exact .inl (by omega)
    · cases hi : kdT x i with
      | false =>
        cases hj : kdT x j with
        | true => exact h.ls (d + 1) i j h1 h2 h3 h5 hi hj
        | false =>
          rw [e3_L hT h2 hi, e3_L hT h3 hj] at h4
          exact e2_ls h (d + 1) i j h1 h2 h3 h4
      | true =>
        cases hj : kdT x j with
        | false =>
          have := kc_kind (K := kdT x) h5.symm hj hi
          rw [hs, ht, ltN_cons] at h4
          rcases h4 with h4 | ⟨h4, -⟩ <;> omega
        | true =>
          by_cases hin : i + 1 < x.length
          · have hjn : j + 1 < x.length := by
              refine Classical.byContradiction fun h6 => ?_
              have h7 := (hT.zero j h3).2 (by omega)
              rw [← h5] at h7
              have := (hT.zero i h2).1 h7
              omega
            rw [e3_S hin hi, e3_S hjn hj, ltN_cons] at h4
            have he := (kc_eq (c := cdT x) (K := kdT x)).2 ⟨h5, hi.trans hj.symm⟩
            rcases h4 with h4 | ⟨-, h4⟩
            · omega
            · rw [lsT_step h2 h3, h.cd h2, h.cd h3]
              exact .inr ⟨by omega, e3_ls h d (i + 1) (j + 1) (by omega) hin hjn h4⟩
          · have h7 := (hT.zero i h2).2 (by omega)
            rw [h5] at h7
            have h8 := (hT.zero j h3).1 h7
            have e : i = j := by omega
            rw [e] at h4
            exact absurd h4 (ltN_irrefl _)
    · have := kc_lt (K := kdT x) h5
      rw [hs, ht, ltN_cons] at h4
      rcases h4 with h4 | ⟨h4, -⟩ <;> omega
theorem lsT_skip {x : List Int} {i j : Nat} : ∀ d, i + d ≤ x.length → j + d ≤ x.length → (∀ t, t < d → x.getD (i + t) 0 = x.getD (j + t) 0) → (lsT x (i + d) (j + d) = true ↔ lsT x i j = true)
  | 0, _, _, _ => Iff.rfl
  | d + 1, h1, h2, h3 => by
    rw [← lsT_skip d (by omega) (by omega) fun t ht => h3 t (by omega), lsT_step (i := i + d) (j := j + d) (by omega) (by omega)]
    have := h3 d (by omega)
    constructor
    · intro h; exact .inr ⟨this, h⟩
    · rintro (h | h)
      · omega
      · exact h.2
/-- First Ss are two places apart at least. -/
theorem fs_gap {x : List Int} : ∀ k, k < (fsT x x.length).length → 2 * k + 1 ≤ (fsT x x.length).getD k 0
  | 0, h => by
    have := (inF_mem.1 (getD_inN h)).1
    omega
  | k + 1, h => by
    have h1 := fs_gap (x := x) k (by omega)
    have h2 := rise_getD (inF_rise (x := x) x.length) (show k < k + 1 by omega) h
    have h3 := inF_mem.1 (getD_inN (show k < (fsT x x.length).length by omega))
    have h4 := inF_mem.1 (getD_inN h)
    refine Classical.byContradiction fun h5 => ?_
    have h6 := h4.2.2.2
    rw [show (fsT x x.length).getD (k + 1) 0 - 1 = (fsT x x.length).getD k 0 by omega, h3.2.2.1] at h6
    cases h6
theorem fs_half {x : List Int} : 2 * (fsT x x.length).length ≤ x.length := by
  by_cases h : (fsT x x.length).length = 0
  · omega
  · have h1 := fs_gap (x := x) ((fsT x x.length).length - 1) (by omega)
    have h2 := (inF_mem.1 (getD_inN (show (fsT x x.length).length - 1 < (fsT x x.length).length by omega))).2.1
    omega
theorem chg_le (x : List Int) (g : List Nat) : ∀ t, chg x g t ≤ t
  | 0 => Nat.le_refl _
  | t + 1 => by
    have := chg_le x g t
    show chg x g t + (if _ then 0 else 1) ≤ t + 1
    split <;> omega
/-- The reduced text. -/
def rdT (x : List Int) : List Int := zsN (nmT x (indT x (fsT x x.length)))
theorem isFs_own (x : List Int) : isFs x (fsT x x.length) := by
  refine ⟨?_, fun j => Iff.rfl⟩
  rw [List.nodup_iff_pairwise_ne]
  exact (inF_rise (x := x) x.length).imp fun {a b} h => by omega
theorem rd_len (x : List Int) : (rdT x).length = (fsT x x.length).length := by unfold rdT; rw [zsN_len, nmT_len]
theorem rd_get {x : List Int} {l : List Nat} (h : InT x) (hl : ByP x l) {a : Nat} (ha : a < (fsT x x.length).length) : (rdT x).getD a 0 = ((chg x (gsT x l) ((gsT x l).idxOf ((fsT x x.length).getD a 0)) : Nat) : Int) := by
  unfold rdT
  rw [nmT_one h (ind_byP h (isFs_own x)).1 hl, zsN_get, nmT_get ha]
theorem rd_lt {x : List Int} (h : InT x) {a b : Nat} (ha : a < (fsT x x.length).length) (hb : b < (fsT x x.length).length) :
    (rdT x).getD a 0 < (rdT x).getD b 0 ↔ ltN (e3P x.length (cdT x) (kdT x) ((fsT x x.length).getD a 0)) (e3P x.length (cdT x) (kdT x) ((fsT x x.length).getD b 0)) = true := by
  have hl := (ind_byP h (isFs_own x)).1
  rw [rd_get h hl ha, rd_get h hl hb, ← names_lt h hl (getD_inN ha) (getD_inN hb)]
  omega
/-- It is a text. -/
theorem rd_ok {x : List Int} (h : InT x) (hx : x.length ≤ 65536) (h2 : 2 ≤ (fsT x x.length).length) : ckT (rdT x) = 0 := by
  have hl := (ind_byP h (isFs_own x)).1
  have hn := fs_half (x := x)
  have hlen := rd_len x
  have hT := h.txt
  have hlast : ∀ a, a < (fsT x x.length).length → a + 1 ≠ (fsT x x.length).length → ltN (e3P x.length (cdT x) (kdT x) (x.length - 1)) (e3P x.length (cdT x) (kdT x) ((fsT x x.length).getD a 0)) = true := fun a ha hne => by
    have hm := inF_mem.1 (getD_inN ha)
    have h3 := rise_getD (inF_rise (x := x) x.length) (show a < (fsT x x.length).length - 1 by omega) (by omega)
    have h4 := fs_lastD h (show (fsT x x.length).length - 1 + 1 = (fsT x x.length).length by omega)
    obtain ⟨t, ht⟩ := e3_head hT hm.2.1
    rw [e3_last hT, ht, ltN_cons]
    left
    have h5 : cdT x ((fsT x x.length).getD a 0) ≠ 0 := fun e => by
      have := (hT.zero _ hm.2.1).1 e
      omega
    unfold kc
    omega
  have hm1 : (fsT x x.length).length - 1 < (fsT x x.length).length := by omega
  have hld := fs_lastD h (show (fsT x x.length).length - 1 + 1 = (fsT x x.length).length by omega)
  have hz : (rdT x).getD ((fsT x x.length).length - 1) 0 = 0 := by
    rw [rd_get h hl hm1]
    cases hv : chg x (gsT x (indT x (fsT x x.length))) ((gsT x (indT x (fsT x x.length))).idxOf ((fsT x x.length).getD ((fsT x x.length).length - 1) 0)) with
    | zero => rfl
    | succ v =>
      obtain ⟨s, h3, h4⟩ := chg_down _ _ _ v hv
      have h5 := (idx_at ((gs_mem hl).2 (getD_inN hm1))).1
      have h6 : (gsT x (indT x (fsT x x.length))).getD s 0 ∈ gsT x (indT x (fsT x x.length)) := getD_inN (by omega)
      have h7 := idx_getD (gs_nodup hl) (show s < (gsT x (indT x (fsT x x.length))).length by omega)
      obtain ⟨b, hb, e⟩ := mem_getD ((gs_mem hl).1 h6)
      have h8 := (names_lt h hl ((gs_mem hl).1 h6) (getD_inN hm1)).1 (by rw [h7]; omega)
      rw [← e, hld] at h8
      by_cases e2 : b + 1 = (fsT x x.length).length
      · rw [fs_lastD h e2] at h8
        exact absurd h8 (ltN_irrefl _)
      · have h9 := hlast b hb e2
        exact absurd (ltN_trans h8 h9) (ltN_irrefl _)
  unfold ckT
  rw [if_neg (by omega), if_neg, if_pos]
  · refine ⟨by omega, fun i hi => ?_⟩
    rw [hlen] at hi ⊢
    constructor
    · intro h3
      refine Classical.byContradiction fun h4 => ?_
      have h5 := (rd_lt h hm1 hi).2 (by rw [hld]; exact hlast i hi h4)
      rw [hz, h3] at h5
      omega
    · intro h3
      rw [show i = (fsT x x.length).length - 1 by omega]
      exact hz
  · intro h3
    refine h3 fun z hz2 => ?_
    obtain ⟨i, hi, e⟩ := List.getElem_of_mem hz2
    have h4 : (rdT x).getD i 0 = z := by rw [List.getD_eq_getElem?_getD, List.getElem?_eq_getElem hi]; exact e
    rw [hlen] at hi
    rw [rd_get h hl hi] at h4
    have h5 := chg_le x (gsT x (indT x (fsT x x.length))) ((gsT x (indT x (fsT x x.length))).idxOf ((fsT x x.length).getD i 0))
    have h6 := (idx_at ((gs_mem hl).2 (getD_inN hi))).1
    have h7 := List.length_filter_le (fun j => decide (j ∈ fsT x x.length)) (indT x (fsT x x.length))
    have h8 := (ind_byP h (isFs_own x)).2
    have h9 : (gsT x (indT x (fsT x x.length))).length ≤ (indT x (fsT x x.length)).length := h7
    omega
/-- Its suffixes stand as those of the first Ss. -/
theorem rd_ls {x : List Int} (h : InT x) (hx : x.length ≤ 65536) (h2 : 2 ≤ (fsT x x.length).length) : ∀ d a b, (fsT x x.length).length = a + d → a < (fsT x x.length).length → b < (fsT x x.length).length → lsT (rdT x) a b = true → lsT x ((fsT x x.length).getD a 0) ((fsT x x.length).getD b 0) = true
  | 0, a, b, h3, h4, _, _ => by omega
  | d + 1, a, b, h3, h4, h5, h6 => by
    have hlen := rd_len x
    have hr := InT.of (rd_ok h hx h2)
    have hma := inF_mem.1 (getD_inN h4)
    have hmb := inF_mem.1 (getD_inN h5)
    rw [lsT_step (by omega) (by omega)] at h6
    rcases h6 with h6 | ⟨h6, h7⟩
    · exact e3_ls h (x.length - (fsT x x.length).getD a 0) _ _ (by omega) hma.2.1 hmb.2.1 ((rd_lt h h4 h5).1 h6)
    · by_cases ha : a + 1 = (fsT x x.length).length
      · have h8 := (hr.right.2 a (by omega)).2 (by omega)
        rw [h6] at h8
        have h9 := (hr.right.2 b (by omega)).1 h8
        have e : a = b := by omega
        subst e
        rw [lsT_irrefl] at h7; cases h7
      · by_cases hb : b + 1 = (fsT x x.length).length
        · have h8 := (hr.right.2 b (by omega)).2 (by omega)
          rw [← h6] at h8
          have h9 := (hr.right.2 a (by omega)).1 h8
          omega
        · have ih := rd_ls h hx h2 d (a + 1) (b + 1) (by omega) (by omega) (by omega) h7
          have h8 : ¬ ltN (e3P x.length (cdT x) (kdT x) ((fsT x x.length).getD a 0)) (e3P x.length (cdT x) (kdT x) ((fsT x x.length).getD b 0)) = true := fun h9 => by
            have := (rd_lt h h4 h5).2 h9; omega
          have h9 : ¬ ltN (e3P x.length (cdT x) (kdT x) ((fsT x x.length).getD b 0)) (e3P x.length (cdT x) (kdT x) ((fsT x x.length).getD a 0)) = true := fun h9 => by
            have := (rd_lt h h5 h4).2 h9; omega
          have h10 := (pce_iff h hma.2.1 hmb.2.1).1.2 (ltN_total h8 h9)
          rw [pce_next h (show a + 1 < _ by omega), pce_next h (show b + 1 < _ by omega)] at h10
          have hga := rise_getD (inF_rise (x := x) x.length) (show a < a + 1 by omega) (by omega)
          have hgb := rise_getD (inF_rise (x := x) x.length) (show b < b + 1 by omega) (by omega)
          have hma' := inF_mem.1 (getD_inN (show a + 1 < (fsT x x.length).length by omega))
          have hmb' := inF_mem.1 (getD_inN (show b + 1 < (fsT x x.length).length by omega))
          generalize (fsT x x.length).getD a 0 = p at *
          generalize (fsT x x.length).getD b 0 = q at *
          generalize (fsT x x.length).getD (a + 1) 0 = p' at *
          generalize (fsT x x.length).getD (b + 1) 0 = q' at *
          have h11 := congrArg List.length h10
          rw [List.length_take, List.length_take, List.length_drop, List.length_drop] at h11
          have h12 : p' - p = q' - q := by omega
          have h13 : ∀ t, t < p' - p → x.getD (p + t) 0 = x.getD (q + t) 0 := fun t ht => by
            have h14 := congrArg (fun l : List Int => l.getD t 0) h10
            simp only [List.getD_eq_getElem?_getD, List.getElem?_take, List.getElem?_drop] at h14
            rw [if_pos (by omega), if_pos (by omega)] at h14
            rw [List.getD_eq_getElem?_getD, List.getD_eq_getElem?_getD]
            exact h14
          have h14 := lsT_skip (x := x) (i := p) (j := q) (p' - p) (by omega) (by omega) h13
          rw [show p + (p' - p) = p' by omega, show q + (p' - p) = q' by omega] at h14
          exact h14.1 ih
end Go.Inc
