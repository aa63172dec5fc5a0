/- INDUCING, PLAIN: first Ss are sown, Ls and then Ss are put; what comes of it is all places, by any order that goes by codes, kinds and what is behind. -/
import Derived.Test.YtdobjlaggdnphaaInA
namespace Go.Inc
/-- Codes and kinds of a text. -/
structure Txt (n : Nat) (c : Nat → Nat) (K : Nat → Bool) : Prop where
  pos : 0 < n
  last : K (n - 1) = true
  zero : ∀ i, i < n → (c i = 0 ↔ i + 1 = n)
  kind : ∀ i, i + 1 < n → (K i = true ↔ c i < c (i + 1) ∨ (c i = c (i + 1) ∧ K (i + 1) = true))
/-- A bucket's head. -/
def hdC (n : Nat) (c : Nat → Nat) (s : Nat) : Nat := ((List.range n).filter fun i => decide (c i < s)).length
theorem hdC_succ (n : Nat) (c : Nat → Nat) (s : Nat) : hdC n c (s + 1) = hdC n c s + szC n c s := by
  unfold hdC szC
  induction n with
  | zero => rfl
  | succ n ih =>
    rw [List.range_succ, List.filter_append, List.filter_append, List.filter_append, List.length_append, List.length_append, List.length_append, ih]
    have : (([n].filter fun i => decide (c i < s + 1)) : List Nat).length = (([n].filter fun i => decide (c i < s)) : List Nat).length + (([n].filter fun i => c i == s) : List Nat).length := by
      by_cases h1 : c n < s
      · have h2 : c n < s + 1 := by omega
        have h3 : ¬ c n = s := by omega
        simp [h1, h2, h3]
      · by_cases h3 : c n = s
        · subst h3; simp
        · have h2 : ¬ c n < s + 1 := by omega
          simp [h1, h2, h3]
    omega
theorem hdC_mono (n : Nat) (c : Nat → Nat) {s s' : Nat} (h : s ≤ s') : hdC n c s ≤ hdC n c s' := by
  induction s' with
  | zero => obtain rfl : s = 0 := by omega
            exact Nat.le_refl _
  | succ s' ih =>
    by_cases e : s = s' + 1
    · subst e; exact Nat.le_refl _
    · have := ih (by omega)
      rw [hdC_succ]; omega
theorem hdC_le (n : Nat) (c : Nat → Nat) (s : Nat) : hdC n c s ≤ n := by
  unfold hdC
  have := List.length_filter_le (fun i => decide (c i < s)) (List.range n)
  rwa [List.length_range] at this
theorem szC_pos {n : Nat} {c : Nat → Nat} {i : Nat} (h : i < n) : 0 < szC n c (c i) := by
  unfold szC
  exact List.length_pos_of_mem (List.mem_filter.2 ⟨List.mem_range.2 h, by simp⟩)
section
variable {n : Nat} {c : Nat → Nat} {K : Nat → Bool}
theorem Txt.L (h : Txt n c K) {j : Nat} (hj : j < n) (hk : K j = false) : j + 1 < n ∧ c (j + 1) ≤ c j ∧ (c (j + 1) = c j → K (j + 1) = false) := by
  have hn : j + 1 < n := by
    refine Classical.byContradiction fun h1 => ?_
    obtain rfl : j = n - 1 := by omega
    rw [h.last] at hk; cases hk
  have h1 := h.kind j hn
  rw [hk] at h1
  have h2 : ¬ (c j < c (j + 1) ∨ c j = c (j + 1) ∧ K (j + 1) = true) := fun h3 => by have := h1.2 h3; cases this
  refine ⟨hn, by omega, fun e => ?_⟩
  cases hh : K (j + 1) with
  | false => rfl
  | true => exact absurd (.inr ⟨e.symm, hh⟩) h2
theorem Txt.S (h : Txt n c K) {j : Nat} (hj : j + 1 < n) (hk : K j = true) : c j ≤ c (j + 1) ∧ (c (j + 1) = c j → K (j + 1) = true ∧ j + 1 ≠ n - 1) := by
  have h1 := (h.kind j hj).1 hk
  refine ⟨by omega, fun e => ⟨?_, fun e2 => ?_⟩⟩
  · rcases h1 with h1 | h1
    · omega
    · exact h1.2
  · have h2 := (h.zero (j + 1) hj).2 (by omega)
    rw [e] at h2
    have := (h.zero j (by omega)).1 h2
    omega
/-- Is it a first S? -/
def msK (n : Nat) (K : Nat → Bool) (j : Nat) : Prop := 0 < j ∧ j < n ∧ K j = true ∧ K (j - 1) = false
/-- Which places the first scan puts, and the second one. -/
def insL (K : Nat → Bool) (i : Nat) : Bool := !K i
def insS (n : Nat) (K : Nat → Bool) (i : Nat) : Bool := K i && decide (i ≠ n - 1)
def stS (n : Nat) (c : Nat → Nat) (s : Nat) : Nat := n - hdC n c (s + 1)
theorem insL_iff {i : Nat} : insL K i = true ↔ K i = false := by unfold insL; cases K i <;> simp
theorem insL_not {i : Nat} : insL K i = false ↔ K i = true := by unfold insL; cases K i <;> simp
theorem insS_iff {i : Nat} : insS n K i = true ↔ K i = true ∧ i ≠ n - 1 := by unfold insS; simp
theorem Txt.scanL (h : Txt n c K) : Scan n c (insL K) (hdC n c) where
  in_ s := by rw [← hdC_succ]; exact hdC_le _ _ _
  apart s s' _ := by
    rw [← hdC_succ, ← hdC_succ]
    by_cases e : s < s'
    · exact .inl (hdC_mono n c (by omega))
    · exact .inr (hdC_mono n c (by omega))
  next j hj hi := by
    obtain ⟨h1, h2, h3⟩ := h.L hj (insL_iff.1 hi)
    refine ⟨h1, fun e => ?_, fun e => insL_iff.2 (h3 e)⟩
    rw [← hdC_succ]
    exact hdC_mono n c (by omega)
theorem Txt.scanS (h : Txt n c K) : Scan n c (insS n K) (stS n c) where
  in_ s := by
    have h1 := hdC_le n c (s + 1)
    have h2 := hdC_succ n c s
    unfold stS; omega
  apart s s' _ := by
    have h1 := hdC_le n c (s + 1)
    have h2 := hdC_succ n c s
    have h1' := hdC_le n c (s' + 1)
    have h2' := hdC_succ n c s'
    unfold stS
    by_cases e : s < s'
    · have := hdC_mono n c (show s + 1 ≤ s' by omega)
      right; omega
    · have := hdC_mono n c (show s' + 1 ≤ s by omega)
      left; omega
  next j hj hi := by
    obtain ⟨h1, h2⟩ := insS_iff.1 hi
    have hn : j + 1 < n := by omega
    obtain ⟨h3, h4⟩ := h.S hn h1
    refine ⟨hn, fun e => ?_, fun e => insS_iff.2 (h4 e)⟩
    have h5 := hdC_le n c (c (j + 1) + 1)
    have h6 := hdC_succ n c (c (j + 1))
    have h7 := hdC_mono n c (show c j + 1 ≤ c (j + 1) by omega)
    unfold stS; omega
/-- An order of places that goes by codes, by kinds, and by what is behind; that of the first scan, and that of the second one. -/
structure ByR (n : Nat) (c : Nat → Nat) (K : Nat → Bool) (R R' : Nat → Nat → Prop) : Prop where
  code : ∀ i j, i < n → j < n → c i < c j → R i j
  code' : ∀ i j, i < n → j < n → c i < c j → R' i j
  kind : ∀ i j, i < n → j < n → c i = c j → K i = false → K j = true → R i j
  kind' : ∀ i j, i < n → j < n → c i = c j → K i = false → K j = true → R' i j
  step : ∀ i j, i + 1 < n → j + 1 < n → c i = c j → K i = false → K j = false → R (i + 1) (j + 1) → R i j
  step' : ∀ i j, i + 1 < n → j + 1 < n → c i = c j → K i = true → K j = true → R' (i + 1) (j + 1) → R' i j
  both : ∀ i j, i < n → j < n → c i = c j → K i = false → K j = false → R i j → R' i j
variable {R R' : Nat → Nat → Prop}
theorem hd_lt {i j : Nat} (hi : i < n) (_ : c i ≠ c j) (h : hdC n c (c i) + szC n c (c i) ≤ hdC n c (c j)) : c i < c j := by
  refine Classical.byContradiction fun h1 => ?_
  have h2 := hdC_mono n c (show c j ≤ c i by omega)
  have := szC_pos (c := c) hi
  omega
theorem ByR.scanL (hT : Txt n c K) (h : ByR n c K R R') : ScanR n c (insL K) (hdC n c) R where
  code i j hi hj hne hb := h.code i j hi hj (hd_lt hi hne hb)
  kind i j hi hj hc h1 h2 := h.kind i j hi hj hc (insL_iff.1 h1) (insL_not.1 h2)
  step i j hi hj hc h1 h2 hr := h.step i j (hT.L hi (insL_iff.1 h1)).1 (hT.L hj (insL_iff.1 h2)).1 hc (insL_iff.1 h1) (insL_iff.1 h2) hr
theorem ByR.scanS (hT : Txt n c K) (h : ByR n c K R R') : ScanR n c (insS n K) (stS n c) fun i j => R' j i where
  code i j hi hj _ hb := by
    refine h.code' j i hj hi ?_
    refine Classical.byContradiction fun h1 => ?_
    have h2 := hdC_mono n c (show c i + 1 ≤ c j by omega)
    have h3 := szC_pos (c := c) hi
    have h4 := hdC_le n c (c j + 1)
    have h5 := hdC_succ n c (c j)
    have h6 := szC_pos (c := c) hj
    have h7 := hdC_succ n c (c i)
    unfold stS at hb
    omega
  kind i j hi hj hc h1 h2 := by
    obtain ⟨h3, h4⟩ := insS_iff.1 h1
    refine h.kind' j i hj hi hc.symm ?_ h3
    cases hk : K j with
    | false => rfl
    | true =>
      have h5 : j = n - 1 := Classical.byContradiction fun h6 => by
        rw [insS_iff.2 ⟨hk, h6⟩] at h2; cases h2
      have h6 := (hT.zero j hj).2 (by omega)
      rw [← hc] at h6
      have := (hT.zero i hi).1 h6
      omega
  step i j hi hj hc h1 h2 hr := by
    obtain ⟨h3, h4⟩ := insS_iff.1 h1
    obtain ⟨h5, h6⟩ := insS_iff.1 h2
    exact h.step' j i (by omega) (by omega) hc.symm h5 h3 hr
/-- First Ss that are sown, from the last one on. -/
def sow (n : Nat) (c : Nat → Nat) : List Nat → ScSt
  | [] => (fun _ => none, fun _ => 0)
  | f :: fs => (updF (sow n c fs).1 (hdC n c (c f + 1) - 1 - (sow n c fs).2 (c f)) (some f), updF (sow n c fs).2 (c f) ((sow n c fs).2 (c f) + 1))
theorem sow_ok (hT : Txt n c K) : ∀ (fs : List Nat), fs.Nodup → (∀ f ∈ fs, f < n ∧ K f = true) → (∀ f ∈ fs, ∀ g ∈ fs, c f < c g → R f g) → (fs.Pairwise fun f g => c f = c g → R f g) →
    ScanI n c (insL K) (hdC n c) (sow n c fs).2 R (sow n c fs).1 (fun _ => 0) 0 ∧ (∀ p i, (sow n c fs).1 p = some i ↔ i ∈ fs ∧ (sow n c fs).1 p = some i) ∧ (∀ f ∈ fs, ∃ p, (sow n c fs).1 p = some f) ∧ ∀ s, (sow n c fs).2 s = (fs.filter fun f => c f == s).length
  | [], _, _, _, _ => by
    refine ⟨⟨fun s => Nat.zero_le _, fun s t h => absurd h (by omega), fun s t _ _ => rfl, fun s t h1 h2 => ?_, fun p i h => ?_, fun p p' i h => ?_, fun p j h => ?_, fun p j h => absurd h (by omega), fun p p' i i' _ h => ?_⟩, fun p i => ⟨fun h => ?_, fun h => h.2⟩, fun f hf => ?_, fun s => rfl⟩
    · have h3 : szC n c s - 0 ≤ t := h1
      omega
    all_goals first | cases h | cases hf
  | f :: fs, hn, hf, hr, hp => by
    rw [List.nodup_cons] at hn
    rw [List.pairwise_cons] at hp
    obtain ⟨h, hm, hall, hq⟩ := sow_ok hT fs hn.2 (fun g hg => hf g (List.mem_cons_of_mem _ hg)) (fun g hg g' hg' => hr g (List.mem_cons_of_mem _ hg) g' (List.mem_cons_of_mem _ hg')) hp.2
    obtain ⟨hfn, hfk⟩ := hf f (by simp)
    have hno : ∀ p, (sow n c fs).1 p ≠ some f := fun p hp => hn.1 ((hm p f).1 hp).1
    have hroom := h.room hfn hno
    have hno' : insL K f = false := insL_not.2 hfk
    obtain ⟨a, ha⟩ : ∃ a, a = (sow n c fs).1 := ⟨_, rfl⟩
    obtain ⟨m, hmm⟩ : ∃ m, m = (sow n c fs).2 := ⟨_, rfl⟩
    rw [← ha] at h hm hall hno
    rw [← hmm] at h hq hroom
    obtain ⟨s, hse⟩ : ∃ s, s = c f := ⟨_, rfl⟩
    rw [← hse] at hroom
    have hroom' : m s < szC n c s := by simpa using hroom
    obtain ⟨p0, hp0⟩ : ∃ p0, p0 = hdC n c (s + 1) - 1 - m s := ⟨_, rfl⟩
    have hp0' : p0 = hdC n c s + (szC n c s - m s - 1) := by rw [hp0, hdC_succ]; omega
    have hS := hT.scanL
    have hnone : a p0 = none := by rw [hp0']; exact h.mid s _ (Nat.zero_le _) (by omega)
    have hfar : ∀ s' t, s' ≠ s → t < szC n c s' → hdC n c s' + t ≠ p0 := fun s' t hne ht e => by
      rcases hS.apart s' s hne with h1 | h1 <;> omega
    show ScanI n c (insL K) (hdC n c) (updF (sow n c fs).2 (c f) ((sow n c fs).2 (c f) + 1)) R (updF (sow n c fs).1 (hdC n c (c f + 1) - 1 - (sow n c fs).2 (c f)) (some f)) (fun _ => 0) 0 ∧ (∀ p i, updF (sow n c fs).1 (hdC n c (c f + 1) - 1 - (sow n c fs).2 (c f)) (some f) p = some i ↔ i ∈ f :: fs ∧ updF (sow n c fs).1 (hdC n c (c f + 1) - 1 - (sow n c fs).2 (c f)) (some f) p = some i) ∧ (∀ g ∈ f :: fs, ∃ p, updF (sow n c fs).1 (hdC n c (c f + 1) - 1 - (sow n c fs).2 (c f)) (some f) p = some g) ∧ ∀ s, updF (sow n c fs).2 (c f) ((sow n c fs).2 (c f) + 1) s = ((f :: fs).filter fun f => c f == s).length
    rw [← ha, ← hmm, ← hse, ← hp0]
    refine ⟨⟨fun s' => ?_, fun s' t ht => absurd ht (by omega), fun s' t h1 h2 => ?_, fun s' t h1 h2 => ?_, fun p i h1 => ?_, fun p p' i h1 h2 => ?_, fun p j h1 h2 => ?_, fun p j h1 => absurd h1 (by omega), fun p p' i i' hpp h1 h2 => ?_⟩, fun p i => ⟨fun h1 => ⟨?_, h1⟩, fun h1 => h1.2⟩, fun g hg => ?_, fun s' => ?_⟩
    · by_cases e : s' = s
      · subst e; rw [updF_at]; omega
      · rw [updF_ne _ _ e]; exact h.fit s'
    · by_cases e : s' = s
      · subst e
        rw [updF_at] at h2
        rw [updF_ne _ _ (by omega)]
        exact h.mid s' t h1 (by omega)
      · rw [updF_ne _ _ e] at h2
        rw [updF_ne _ _ (hfar s' t e (by omega))]
        exact h.mid s' t h1 h2
    · by_cases e : s' = s
      · subst e
        rw [updF_at] at h1
        by_cases e2 : t = szC n c s' - m s' - 1
        · subst e2
          exact ⟨f, by rw [← hp0', updF_at], hfn, hse.symm, hno'⟩
        · rw [updF_ne _ _ (by omega)]
          exact h.top s' t (by omega) h2
      · rw [updF_ne _ _ e] at h1
        rw [updF_ne _ _ (hfar s' t e h2)]
        exact h.top s' t h1 h2
    · by_cases e : p = p0
      · exact ⟨s, szC n c s - m s - 1, by omega, by rw [e, hp0']⟩
      · rw [updF_ne _ _ e] at h1
        exact h.out p i h1
    · by_cases e : p = p0
      · by_cases e' : p' = p0
        · rw [e, e']
        · rw [e, updF_at] at h1
          rw [updF_ne _ _ e'] at h2
          cases h1
          exact absurd h2 (hno p')
      · rw [updF_ne _ _ e] at h1
        by_cases e' : p' = p0
        · rw [e', updF_at] at h2
          cases h2
          exact absurd h1 (hno p)
        · rw [updF_ne _ _ e'] at h2
          exact h.inj p p' i h1 h2
    · by_cases e : p = p0
      · rw [e, updF_at] at h1
        cases h1
        rw [hno'] at h2; cases h2
      · rw [updF_ne _ _ e] at h1
        obtain ⟨p', h3, h4⟩ := h.prev p j h1 h2
        omega
    · by_cases e : p = p0
      · have e' : p' ≠ p0 := by omega
        rw [e, updF_at] at h1
        cases h1
        rw [updF_ne _ _ e'] at h2
        have hin := ((hm p' i').1 h2).1
        obtain ⟨h3, t, h4, h5, h6, h7⟩ := h.at_ h2
        by_cases hc : c i' = s
        · exact hp.1 i' hin (by rw [hc, hse])
        · refine hr f (by simp) i' (List.mem_cons_of_mem _ hin) ?_
          refine Classical.byContradiction fun h8 => ?_
          have h9 := hdC_mono n c (show c i' + 1 ≤ s by omega)
          rw [hdC_succ] at h9
          omega
      · rw [updF_ne _ _ e] at h1
        by_cases e' : p' = p0
        · rw [e', updF_at] at h2
          cases h2
          have hin := ((hm p i).1 h1).1
          obtain ⟨h3, t, h4, h5, h6, h7⟩ := h.at_ h1
          by_cases hc : c i = s
          · have h8 := h7 (insL_not.2 (hf i (List.mem_cons_of_mem _ hin)).2)
            rw [hc] at h8 h5
            omega
          · refine hr i (List.mem_cons_of_mem _ hin) f (by simp) ?_
            refine Classical.byContradiction fun h8 => ?_
            have h9 := hdC_mono n c (show s + 1 ≤ c i by omega)
            rw [hdC_succ] at h9
            omega
        · rw [updF_ne _ _ e'] at h2
          exact h.sort p p' i i' hpp h1 h2
    · by_cases e : p = p0
      · rw [e, updF_at] at h1
        cases h1
        simp
      · rw [updF_ne _ _ e] at h1
        exact List.mem_cons_of_mem _ ((hm p i).1 h1).1
    · rcases List.mem_cons.1 hg with rfl | hg
      · exact ⟨p0, updF_at _ _ _⟩
      · obtain ⟨p, h1⟩ := hall g hg
        have : p ≠ p0 := fun e => by rw [e, hnone] at h1; cases h1
        exact ⟨p, by rw [updF_ne _ _ this]; exact h1⟩
    · by_cases e : s' = s
      · subst e
        rw [updF_at, hq, List.filter_cons_of_pos (by simp [hse])]
        rfl
      · rw [updF_ne _ _ e, hq, List.filter_cons_of_neg (by rw [← hse]; simp; exact fun e2 => e e2.symm)]
end
end Go.Inc
