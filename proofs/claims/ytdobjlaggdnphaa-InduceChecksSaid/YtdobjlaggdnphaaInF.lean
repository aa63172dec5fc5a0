/- INDUCING, PLAIN: the pieces of a text; names in an order that is induced. -/
import Derived.Test.YtdobjlaggdnphaaInE
namespace Go.Inc
section
variable {n : Nat} {c : Nat → Nat} {K : Nat → Bool}
theorem e2_run (h : Txt n c K) {q : Nat} (hq : msK n K q) : ∀ d i, q = i + d → (i < q → K i = false) → (∀ j, i < j → j < q → ¬ msK n K j) → e2P n c K i = (List.range' i (d + 1)).map (kc c K)
  | 0, i, h1, _, _ => by
    obtain rfl : q = i := h1
    exact e2_S hq.2.2.1
  | d + 1, i, h1, h2, h3 => by
    have hk := h2 (by omega)
    rw [e2_L h (show i < n by have := hq.2.1; omega) hk, e2_run h hq d (i + 1) (by omega) (fun h4 => ?_) fun j h4 h5 => h3 j (by omega) h5]
    · rfl
    · cases h5 : K (i + 1) with
      | false => rfl
      | true => exact absurd ⟨by omega, by have := hq.2.1; omega, h5, by rw [Nat.add_sub_cancel]; exact hk⟩ (h3 (i + 1) (by omega) h4)
theorem e3_run (h : Txt n c K) {q : Nat} (hq : msK n K q) : ∀ d i, q = i + d + 1 → K i = true → (∀ j, i < j → j < q → ¬ msK n K j) → e3P n c K i = (List.range' i (d + 2)).map (kc c K)
  | 0, i, h1, hk, _ => by
    have := hq.2.2.2
    rw [show q - 1 = i by omega, hk] at this
    cases this
  | d + 1, i, h1, hk, h3 => by
    have hi : i + 1 < n := by have := hq.2.1; omega
    rw [e3_S hi hk]
    cases h4 : K (i + 1) with
    | true => rw [e3_run h hq d (i + 1) (by omega) h4 fun j h5 h6 => h3 j (by omega) h6]; rfl
    | false =>
      rw [e3_L h hi h4, e2_run h hq (d + 1) (i + 1) (by omega) (fun _ => h4) fun j h5 h6 => h3 j (by omega) h6]
      rfl
end
/-- The piece at a first S, as codes. -/
def pceT (x : List Int) (p : Nat) : List Int := cdE (e3P x.length (cdT x) (kdT x) p)
theorem cdE_run {x : List Int} (h : InT x) (i : Nat) : ∀ m, i + m ≤ x.length → cdE ((List.range' i m).map (kc (cdT x) (kdT x))) = (x.drop i).take m := by
  intro m
  induction m generalizing i with
  | zero => intro _; rfl
  | succ m ih =>
    intro hm
    rw [List.range'_succ, List.map_cons, cdE_cons, ih (i + 1) (by omega), drop_at (show i < x.length by omega), List.take_succ_cons, h.cd (by omega)]
theorem ms_fs {x : List Int} {j : Nat} : msK x.length (kdT x) j ↔ j ∈ fsT x x.length := by rw [inF_mem]; rfl
theorem rise_getD {l : List Nat} (h : l.Pairwise fun a b => a < b) {i j : Nat} (hij : i < j) (hj : j < l.length) : l.getD i 0 < l.getD j 0 := by
  rw [List.getD_eq_getElem?_getD, List.getD_eq_getElem?_getD, List.getElem?_eq_getElem (by omega), List.getElem?_eq_getElem hj]
  exact List.pairwise_iff_getElem.1 h i j (by omega) hj hij
theorem getD_inN {l : List Nat} {i : Nat} (h : i < l.length) : l.getD i 0 ∈ l := by
  rw [List.getD_eq_getElem?_getD, List.getElem?_eq_getElem h]
  exact List.getElem_mem h
theorem mem_getD {l : List Nat} {a : Nat} (h : a ∈ l) : ∃ i, i < l.length ∧ l.getD i 0 = a := by
  obtain ⟨i, hi, e⟩ := List.getElem_of_mem h
  exact ⟨i, hi, by rw [List.getD_eq_getElem?_getD, List.getElem?_eq_getElem hi]; exact e⟩
/-- A piece goes up to the next first S; the last one is that place alone. -/
theorem pce_next {x : List Int} (h : InT x) {k : Nat} (hk : k + 1 < (fsT x x.length).length) :
    pceT x ((fsT x x.length).getD k 0) = (x.drop ((fsT x x.length).getD k 0)).take ((fsT x x.length).getD (k + 1) 0 + 1 - (fsT x x.length).getD k 0) := by
  have hr := inF_rise (x := x) x.length
  have hlt := rise_getD hr (show k < k + 1 by omega) hk
  have hp := ms_fs.2 (getD_inN (show k < (fsT x x.length).length by omega))
  have hq := ms_fs.2 (getD_inN hk)
  have hno : ∀ j, (fsT x x.length).getD k 0 < j → j < (fsT x x.length).getD (k + 1) 0 → ¬ msK x.length (kdT x) j := fun j h1 h2 h3 => by
    obtain ⟨i, hi, e⟩ := mem_getD (ms_fs.1 h3)
    rcases Nat.lt_trichotomy i k with h4 | h4 | h4
    · have := rise_getD hr h4 (by omega); omega
    · subst h4; omega
    · by_cases h5 : i = k + 1
      · subst h5; omega
      · have := rise_getD hr (show k + 1 < i by omega) hi; omega
  generalize (fsT x x.length).getD k 0 = p at *
  generalize (fsT x x.length).getD (k + 1) 0 = q at *
  unfold pceT
  rw [e3_run h.txt hq (q - p - 1) p (by omega) hp.2.2.1 hno, cdE_run h p _ (by have := hq.2.1; omega)]
  congr 1
  omega
theorem fs_last {x : List Int} (h : InT x) (h1 : 1 < x.length) : x.length - 1 ∈ fsT x x.length := by
  rw [inF_mem]
  refine ⟨by omega, by omega, h.txt.last, ?_⟩
  cases hk : kdT x (x.length - 1 - 1) with
  | false => rfl
  | true =>
    have h2 := (h.txt.S (show x.length - 1 - 1 + 1 < x.length by omega) hk).1
    have h3 := (h.txt.zero (x.length - 1) (by omega)).2 (by omega)
    rw [show x.length - 1 - 1 + 1 = x.length - 1 by omega, h3] at h2
    have := (h.txt.zero (x.length - 1 - 1) (by omega)).1 (by omega)
    omega
theorem fs_lastD {x : List Int} (h : InT x) {k : Nat} (hk : k + 1 = (fsT x x.length).length) : (fsT x x.length).getD k 0 = x.length - 1 := by
  have hm := getD_inN (show k < (fsT x x.length).length by omega)
  have h1 := inF_mem.1 hm
  have h2 := fs_last h (by omega)
  obtain ⟨i, hi, e⟩ := mem_getD h2
  by_cases h3 : i = k
  · rw [← h3]; exact e
  · have := rise_getD (inF_rise (x := x) x.length) (show i < k by omega) (by omega)
    omega
theorem pce_last {x : List Int} (h : InT x) : pceT x (x.length - 1) = x.drop (x.length - 1) := by
  have hp := h.right.1
  unfold pceT
  rw [e3_last h.txt, drop_at (show x.length - 1 < x.length by omega), (h.right.2 (x.length - 1) (by omega)).2 (by omega), List.drop_of_length_le (by omega)]
  rfl
/-- How often the piece has changed, along places. -/
def chg (x : List Int) (g : List Nat) : Nat → Nat
  | 0 => 0
  | t + 1 => chg x g t + (if pceT x (g.getD (t + 1) 0) = pceT x (g.getD t 0) then 0 else 1)
theorem chg_mono (x : List Int) (g : List Nat) {s : Nat} : ∀ {t}, s ≤ t → chg x g s ≤ chg x g t
  | 0, h => by obtain rfl : s = 0 := by omega
               exact Nat.le_refl _
  | t + 1, h => by
    by_cases e : s = t + 1
    · subst e; exact Nat.le_refl _
    · have := chg_mono x g (show s ≤ t by omega)
      show _ ≤ chg x g t + _
      omega
theorem chg_same (x : List Int) (g : List Nat) {s : Nat} : ∀ {t}, s ≤ t → chg x g s = chg x g t → pceT x (g.getD s 0) = pceT x (g.getD t 0)
  | 0, h, _ => by obtain rfl : s = 0 := by omega
                  rfl
  | t + 1, h, he => by
    by_cases e : s = t + 1
    · subst e; rfl
    · have h1 := chg_mono x g (show s ≤ t by omega)
      have h2 : chg x g (t + 1) = chg x g t + (if pceT x (g.getD (t + 1) 0) = pceT x (g.getD t 0) then 0 else 1) := rfl
      by_cases h3 : pceT x (g.getD (t + 1) 0) = pceT x (g.getD t 0)
      · rw [if_pos h3] at h2
        rw [h3]
        exact chg_same x g (show s ≤ t by omega) (by omega)
      · rw [if_neg h3] at h2; omega
theorem chg_down (x : List Int) (g : List Nat) : ∀ t v, chg x g t = v + 1 → ∃ s, s < t ∧ chg x g s = v
  | 0, v, h => by cases h
  | t + 1, v, h => by
    have h2 : chg x g (t + 1) = chg x g t + (if pceT x (g.getD (t + 1) 0) = pceT x (g.getD t 0) then 0 else 1) := rfl
    by_cases h3 : chg x g t = v
    · exact ⟨t, by omega, h3⟩
    · have h4 : chg x g t = v + 1 := by split at h2 <;> omega
      obtain ⟨s, h5, h6⟩ := chg_down x g t v h4
      exact ⟨s, by omega, h6⟩
/-- The first Ss as they stand in an order; their names by places; how many names. -/
def gsT (x : List Int) (l : List Nat) : List Nat := l.filter fun j => decide (j ∈ fsT x x.length)
def nmT (x : List Int) (l : List Nat) : List Nat := (fsT x x.length).map fun f => chg x (gsT x l) ((gsT x l).idxOf f)
def ncT (x : List Int) (l : List Nat) : Nat := if gsT x l = [] then 0 else chg x (gsT x l) ((gsT x l).length - 1) + 1
theorem nmT_len (x : List Int) (l : List Nat) : (nmT x l).length = (fsT x x.length).length := by simp [nmT]
theorem nmT_get {x : List Int} {l : List Nat} {a : Nat} (h : a < (fsT x x.length).length) : (nmT x l).getD a 0 = chg x (gsT x l) ((gsT x l).idxOf ((fsT x x.length).getD a 0)) := by
  unfold nmT
  rw [List.getD_eq_getElem?_getD, List.getElem?_map, List.getElem?_eq_getElem h, List.getD_eq_getElem?_getD, List.getElem?_eq_getElem h]
  rfl
/-- All places, by their pieces. -/
structure ByP (x : List Int) (l : List Nat) : Prop where
  all : ∀ j, j ∈ l ↔ j < x.length
  nodup : l.Nodup
  sort : l.Pairwise (leE (e3P x.length (cdT x) (kdT x)))
theorem pce_iff {x : List Int} (h : InT x) {i j : Nat} (hi : i < x.length) (hj : j < x.length) : (pceT x i = pceT x j ↔ e3P x.length (cdT x) (kdT x) i = e3P x.length (cdT x) (kdT x) j) ∧ (cmpP (pceT x i) (pceT x j) < 0 ↔ ltN (e3P x.length (cdT x) (kdT x) i) (e3P x.length (cdT x) (kdT x) j) = true) := by
  obtain ⟨h1, h2⟩ := cmp_is h.txt hi hj
  refine ⟨⟨fun e => h2.1 ?_, fun e => by unfold pceT; rw [e]⟩, h1⟩
  have e' : cdE (e3P x.length (cdT x) (kdT x) i) = cdE (e3P x.length (cdT x) (kdT x) j) := e
  rw [e', cmpP_self]
theorem gs_mem {x : List Int} {l : List Nat} (hl : ByP x l) {j : Nat} : j ∈ gsT x l ↔ j ∈ fsT x x.length := by
  unfold gsT
  rw [List.mem_filter, decide_eq_true_iff, hl.all]
  exact ⟨fun h => h.2, fun h => ⟨(inF_mem.1 h).2.1, h⟩⟩
theorem gs_pw {x : List Int} {l : List Nat} (hl : ByP x l) : (gsT x l).Pairwise (leE (e3P x.length (cdT x) (kdT x))) := hl.sort.filter _
theorem gs_nodup {x : List Int} {l : List Nat} (hl : ByP x l) : (gsT x l).Nodup := hl.nodup.filter _
theorem idx_at {l : List Nat} {a : Nat} (h : a ∈ l) : l.idxOf a < l.length ∧ l.getD (l.idxOf a) 0 = a := by
  have h1 := List.idxOf_lt_length_of_mem h
  refine ⟨h1, ?_⟩
  rw [List.getD_eq_getElem?_getD, List.getElem?_eq_getElem h1]
  exact List.getElem_idxOf h1
theorem idx_getD {l : List Nat} (hn : l.Nodup) {s : Nat} (h : s < l.length) : l.idxOf (l.getD s 0) = s := by
  have e : l.getD s 0 = l[s] := by rw [List.getD_eq_getElem?_getD, List.getElem?_eq_getElem h]; rfl
  rw [e]
  exact (List.getElem_inj hn).1 (List.getElem_idxOf (List.idxOf_lt_length_of_mem (List.getElem_mem h)))
/-- Names tell the pieces' order. -/
theorem names_lt {x : List Int} (h : InT x) {l : List Nat} (hl : ByP x l) {a b : Nat} (ha : a ∈ fsT x x.length) (hb : b ∈ fsT x x.length) :
    chg x (gsT x l) ((gsT x l).idxOf a) < chg x (gsT x l) ((gsT x l).idxOf b) ↔ ltN (e3P x.length (cdT x) (kdT x) a) (e3P x.length (cdT x) (kdT x) b) = true := by
  have hpw := gs_pw hl
  obtain ⟨ha1, ha2⟩ := idx_at ((gs_mem hl).2 ha)
  obtain ⟨hb1, hb2⟩ := idx_at ((gs_mem hl).2 hb)
  have hal := (inF_mem.1 ha).2.1
  have hbl := (inF_mem.1 hb).2.1
  obtain ⟨g, hg⟩ : ∃ g, g = gsT x l := ⟨_, rfl⟩
  have hin : ∀ i, i < g.length → g.getD i 0 < x.length := fun i hi => by
    have := getD_inN hi
    rw [hg, gs_mem hl] at this
    rw [hg]
    exact (inF_mem.1 this).2.1
  rw [← hg] at hpw ha1 ha2 hb1 hb2 ⊢
  have hat : ∀ i j, i < j → j < g.length → leE (e3P x.length (cdT x) (kdT x)) (g.getD i 0) (g.getD j 0) := fun i j hij hj => by
    rw [List.getD_eq_getElem?_getD, List.getD_eq_getElem?_getD, List.getElem?_eq_getElem (by omega), List.getElem?_eq_getElem hj]
    exact List.pairwise_iff_getElem.1 hpw i j (by omega) hj hij
  generalize g.idxOf a = s at *
  generalize g.idxOf b = t at *
  have heq : s < t → e3P x.length (cdT x) (kdT x) a = e3P x.length (cdT x) (kdT x) b → chg x g s = chg x g t := fun hst he => by
    have : ∀ r, s ≤ r → r ≤ t → e3P x.length (cdT x) (kdT x) (g.getD r 0) = e3P x.length (cdT x) (kdT x) a := fun r h1 h2 => by
      by_cases e1 : r = s
      · rw [e1, ha2]
      · by_cases e2 : r = t
        · rw [e2, hb2, he]
        · have h3 := hat s r (by omega) (by omega)
          have h4 := hat r t (by omega) hb1
          unfold leE at h3 h4
          rw [ha2] at h3
          rw [hb2, ← he] at h4
          exact ltN_total h3 h4
    have h5 : ∀ r, s ≤ r → r ≤ t → chg x g r = chg x g s := fun r => by
      induction r with
      | zero => intro h1 _; obtain rfl : s = 0 := by omega
                rfl
      | succ r ih =>
        intro h1 h2
        by_cases e : s = r + 1
        · rw [e]
        · have h6 : chg x g (r + 1) = chg x g r + (if pceT x (g.getD (r + 1) 0) = pceT x (g.getD r 0) then 0 else 1) := rfl
          rw [h6, if_pos ((pce_iff h (hin _ (by omega)) (hin _ (by omega))).1.2 ((this (r + 1) h1 h2).trans (this r (by omega) (by omega)).symm)), ih (by omega) (by omega), Nat.add_zero]
    exact (h5 t (by omega) (Nat.le_refl _)).symm
  constructor
  · intro hlt
    have hst : s < t := by
      refine Classical.byContradiction fun h1 => ?_
      have := chg_mono x g (show t ≤ s by omega)
      omega
    have h1 := hat s t hst hb1
    unfold leE at h1
    rw [ha2, hb2] at h1
    refine Classical.byContradiction fun h2 => ?_
    have := heq hst (ltN_total h2 h1)
    omega
  · intro hlt
    have hst : s < t := by
      refine Classical.byContradiction fun h1 => ?_
      by_cases e : s = t
      · subst e
        rw [ha2] at hb2
        rw [hb2] at hlt
        exact ltN_irrefl _ hlt
      · have h2 := hat t s (by omega) ha1
        unfold leE at h2
        rw [ha2, hb2] at h2
        exact h2 hlt
    have h1 := chg_mono x g (show s ≤ t by omega)
    refine Classical.byContradiction fun h2 => ?_
    have h3 := chg_same x g (show s ≤ t by omega) (by omega)
    rw [ha2, hb2] at h3
    have h4 := (pce_iff h hal hbl).1.1 h3
    rw [h4] at hlt
    exact ltN_irrefl _ hlt
/-- Names don't hang on the order. -/
theorem names_one {x : List Int} (h : InT x) {l l' : List Nat} (hl : ByP x l) (hl' : ByP x l') : ∀ v a, a ∈ fsT x x.length → chg x (gsT x l) ((gsT x l).idxOf a) = v → v ≤ chg x (gsT x l') ((gsT x l').idxOf a)
  | 0, _, _, _ => Nat.zero_le _
  | v + 1, a, ha, he => by
    obtain ⟨s, h1, h2⟩ := chg_down x (gsT x l) _ v he
    have h3 := (idx_at ((gs_mem hl).2 ha)).1
    have h4 : (gsT x l).getD s 0 ∈ gsT x l := getD_inN (by omega)
    have hb := (gs_mem hl).1 h4
    have h5 := idx_getD (gs_nodup hl) (show s < (gsT x l).length by omega)
    rw [← h5] at h2
    have h6 := names_one h hl hl' v _ hb h2
    have h7 := (names_lt h hl hb ha).1 (by omega)
    have h8 := (names_lt h hl' hb ha).2 h7
    omega
theorem nmT_one {x : List Int} (h : InT x) {l l' : List Nat} (hl : ByP x l) (hl' : ByP x l') : nmT x l = nmT x l' := by
  unfold nmT
  apply List.map_congr_left
  intro a ha
  have h1 := names_one h hl hl' _ a ha rfl
  have h2 := names_one h hl' hl _ a ha rfl
  omega
/-- What is induced from any first Ss goes by pieces. -/
theorem ind_byP {x : List Int} (h : InT x) {fs : List Nat} (hf : isFs x fs) : ByP x (indT x fs) ∧ (indT x fs).length = x.length := by
  by_cases h1 : x.length = 1
  · unfold indT
    rw [if_pos h1]
    refine ⟨⟨fun j => ?_, by simp, List.pairwise_singleton _ _⟩, by rw [h1]; rfl⟩
    rw [h1, List.mem_singleton]; omega
  · have hs : SowOk x.length (cdT x) (kdT x) (leE (e2P x.length (cdT x) (kdT x))) fs := by
      refine ⟨hf.1, fun j => by rw [hf.2, ms_fs], ?_⟩
      rw [List.pairwise_iff_getElem]
      intro i j hi hj _ hc
      have h3 := ms_fs.2 ((hf.2 _).1 (List.getElem_mem hi))
      have h4 := ms_fs.2 ((hf.2 _).1 (List.getElem_mem hj))
      unfold leE
      rw [e2_S h3.2.2.1, e2_S h4.2.2.1, (kc_eq (c := cdT x) (K := kdT x)).2 ⟨hc, h3.2.2.1.trans h4.2.2.1.symm⟩]
      exact ltN_irrefl _
    obtain ⟨h3, h4, h5, h6, -⟩ := indF_ok h.txt h.txt.byP hs (h.two h1)
    unfold indT
    rw [if_neg h1]
    exact ⟨⟨h4, h6, h5⟩, h3⟩
end Go.Inc
