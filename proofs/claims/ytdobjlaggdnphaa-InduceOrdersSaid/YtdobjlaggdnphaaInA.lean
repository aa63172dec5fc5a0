/- INDUCING, PLAIN: one scan of an order in which each place that is met puts the place ahead of it into its bucket. No program, no text is named here. -/
import Derived.Test.YtdobjlaggdnphaaSfMath
namespace Go.Inc
theorem nodup_le : ∀ {l m : List Nat}, l.Nodup → (∀ x ∈ l, x ∈ m) → l.length ≤ m.length
  | [], _, _, _ => Nat.zero_le _
  | x :: l, m, hn, h => by
    rw [List.nodup_cons] at hn
    have hx := h x (by simp)
    have h1 := nodup_le (l := l) (m := m.erase x) hn.2 fun y hy => by
      have hne : y ≠ x := fun e => hn.1 (e ▸ hy)
      exact (List.mem_erase_of_ne hne).2 (h y (List.mem_cons_of_mem _ hy))
    rw [List.length_erase_of_mem hx] at h1
    have := List.length_pos_of_mem hx
    rw [List.length_cons]
    omega
theorem nodup_map {f : Nat → Nat} {N : Nat} (h : ∀ a b, a < N → b < N → f a = f b → a = b) : ((List.range N).map f).Nodup := by
  rw [List.nodup_iff_pairwise_ne, List.pairwise_map]
  refine (List.pairwise_lt_range (n := N)).imp_of_mem fun {a b} ha hb hab e => ?_
  have := h a b (List.mem_range.1 ha) (List.mem_range.1 hb) e
  omega
def updF {α : Type} (f : Nat → α) (i : Nat) (v : α) : Nat → α := fun j => if j = i then v else f j
theorem updF_at {α : Type} (f : Nat → α) (i : Nat) (v : α) : updF f i v i = v := if_pos rfl
theorem updF_ne {α : Type} (f : Nat → α) {i j : Nat} (v : α) (h : j ≠ i) : updF f i v j = f j := if_neg h
/-- How many places have a code. -/
def szC (n : Nat) (c : Nat → Nat) (s : Nat) : Nat := ((List.range n).filter fun i => c i == s).length
/-- What a scan works on: buckets that lie apart; a place that is put is put behind the one that puts it. -/
structure Scan (n : Nat) (c : Nat → Nat) (ins : Nat → Bool) (st : Nat → Nat) : Prop where
  in_ : ∀ s, st s + szC n c s ≤ n
  apart : ∀ s s', s ≠ s' → st s + szC n c s ≤ st s' ∨ st s' + szC n c s' ≤ st s
  next : ∀ j, j < n → ins j = true → j + 1 < n ∧ (c (j + 1) ≠ c j → st (c (j + 1)) + szC n c (c (j + 1)) ≤ st (c j)) ∧ (c (j + 1) = c j → ins (j + 1) = true)
/-- What the order that comes of it is by. -/
structure ScanR (n : Nat) (c : Nat → Nat) (ins : Nat → Bool) (st : Nat → Nat) (R : Nat → Nat → Prop) : Prop where
  code : ∀ i j, i < n → j < n → c i ≠ c j → st (c i) + szC n c (c i) ≤ st (c j) → R i j
  kind : ∀ i j, i < n → j < n → c i = c j → ins i = true → ins j = false → R i j
  step : ∀ i j, i < n → j < n → c i = c j → ins i = true → ins j = true → R (i + 1) (j + 1) → R i j
abbrev ScSt := (Nat → Option Nat) × (Nat → Nat)
def scStep (c : Nat → Nat) (ins : Nat → Bool) (st : Nat → Nat) (o : ScSt) (k : Nat) : ScSt :=
  match o.1 k with
  | some i => if 0 < i ∧ ins (i - 1) = true then (updF o.1 (st (c (i - 1)) + o.2 (c (i - 1))) (some (i - 1)), updF o.2 (c (i - 1)) (o.2 (c (i - 1)) + 1)) else o
  | none => o
def scan (c : Nat → Nat) (ins : Nat → Bool) (st : Nat → Nat) (a0 : Nat → Option Nat) : Nat → ScSt
  | 0 => (a0, fun _ => 0)
  | k + 1 => scStep c ins st (scan c ins st a0 k) k
/-- What holds of it after k places. -/
structure ScanI (n : Nat) (c : Nat → Nat) (ins : Nat → Bool) (st m : Nat → Nat) (R : Nat → Nat → Prop) (a : Nat → Option Nat) (q : Nat → Nat) (k : Nat) : Prop where
  fit : ∀ s, q s + m s ≤ szC n c s
  low : ∀ s t, t < q s → ∃ i, a (st s + t) = some i ∧ i < n ∧ c i = s ∧ ins i = true
  mid : ∀ s t, q s ≤ t → t < szC n c s - m s → a (st s + t) = none
  top : ∀ s t, szC n c s - m s ≤ t → t < szC n c s → ∃ i, a (st s + t) = some i ∧ i < n ∧ c i = s ∧ ins i = false
  out : ∀ p i, a p = some i → ∃ s t, t < szC n c s ∧ p = st s + t
  inj : ∀ p p' i, a p = some i → a p' = some i → p = p'
  prev : ∀ p j, a p = some j → ins j = true → ∃ p', p' < k ∧ p' < p ∧ a p' = some (j + 1)
  done : ∀ p j, p < k → a p = some (j + 1) → ins j = true → ∃ p', a p' = some j
  sort : ∀ p p' i i', p < p' → a p = some i → a p' = some i' → R i i'
section
variable {n : Nat} {c : Nat → Nat} {ins : Nat → Bool} {st m : Nat → Nat} {R : Nat → Nat → Prop} {a : Nat → Option Nat} {q : Nat → Nat} {k : Nat}
/-- Where a place stands. -/
theorem ScanI.at_ (h : ScanI n c ins st m R a q k) {p i : Nat} (ha : a p = some i) :
    i < n ∧ ∃ t, t < szC n c (c i) ∧ p = st (c i) + t ∧ (ins i = true → t < q (c i)) ∧ (ins i = false → szC n c (c i) - m (c i) ≤ t) := by
  obtain ⟨s, t, ht, rfl⟩ := h.out p i ha
  have hf := h.fit s
  by_cases h1 : t < q s
  · obtain ⟨i', h2, h3, h4, h5⟩ := h.low s t h1
    rw [ha] at h2; cases h2
    subst h4
    exact ⟨h3, t, ht, rfl, (fun _ => h1), (fun h6 => by rw [h5] at h6; cases h6)⟩
  · by_cases h2 : t < szC n c s - m s
    · have := h.mid s t (by omega) h2
      rw [ha] at this; cases this
    · obtain ⟨i', h3, h4, h5, h6⟩ := h.top s t (by omega) ht
      rw [ha] at h3; cases h3
      subst h5
      exact ⟨h4, t, ht, rfl, (fun h7 => by rw [h6] at h7; cases h7), (fun _ => by omega)⟩
theorem ScanI.lt (hs : Scan n c ins st) (h : ScanI n c ins st m R a q k) {p i : Nat} (ha : a p = some i) : p < n := by
  obtain ⟨-, t, ht, rfl, -, -⟩ := h.at_ ha
  have := hs.in_ (c i)
  omega
/-- There is room for one more. -/
theorem ScanI.room (h : ScanI n c ins st m R a q k) {j : Nat} (hj : j < n) (hno : ∀ p, a p ≠ some j) : q (c j) + m (c j) < szC n c (c j) := by
  obtain ⟨s, hse⟩ : ∃ s, s = c j := ⟨_, rfl⟩
  rw [← hse]
  have hf := h.fit s
  let pos : Nat → Nat := fun t => if t < q s then st s + t else st s + (szC n c s - m s) + (t - q s)
  have hv : ∀ t, t < q s + m s → ∃ i, a (pos t) = some i ∧ i < n ∧ c i = s := fun t ht => by
    by_cases h1 : t < q s
    · obtain ⟨i, h2, h3, h4, -⟩ := h.low s t h1
      exact ⟨i, by show a (if t < q s then _ else _) = _; rw [if_pos h1]; exact h2, h3, h4⟩
    · obtain ⟨i, h2, h3, h4, -⟩ := h.top s (szC n c s - m s + (t - q s)) (by omega) (by omega)
      refine ⟨i, ?_, h3, h4⟩
      show a (if t < q s then _ else _) = _
      rw [if_neg h1, Nat.add_assoc]; exact h2
  have hp : ∀ t t', t < q s + m s → t' < q s + m s → pos t = pos t' → t = t' := fun t t' ht ht' e => by
    have e' : (if t < q s then st s + t else st s + (szC n c s - m s) + (t - q s)) = (if t' < q s then st s + t' else st s + (szC n c s - m s) + (t' - q s)) := e
    split at e' <;> split at e' <;> omega
  let val : Nat → Nat := fun t => (a (pos t)).getD 0
  have hl := nodup_le (l := j :: (List.range (q s + m s)).map val) (m := (List.range n).filter fun i => c i == s) (by
    rw [List.nodup_cons]
    refine ⟨fun hm => ?_, nodup_map fun t t' ht ht' e => ?_⟩
    · obtain ⟨t, ht, e⟩ := List.mem_map.1 hm
      obtain ⟨i, h1, -⟩ := hv t (List.mem_range.1 ht)
      have e2 : (a (pos t)).getD 0 = j := e
      rw [h1] at e2
      exact hno _ (by rw [h1, ← e2]; rfl)
    · obtain ⟨i, h1, -⟩ := hv t ht
      obtain ⟨i', h1', -⟩ := hv t' ht'
      have e2 : (a (pos t)).getD 0 = (a (pos t')).getD 0 := e
      rw [h1, h1'] at e2
      have e3 : i = i' := e2
      subst e3
      exact hp t t' ht ht' (h.inj _ _ i h1 h1')) (fun x hx => by
    rw [List.mem_filter, List.mem_range]
    rcases List.mem_cons.1 hx with rfl | hx
    · exact ⟨hj, by rw [hse]; simp⟩
    · obtain ⟨t, ht, e⟩ := List.mem_map.1 hx
      obtain ⟨i, h1, h2, h3⟩ := hv t (List.mem_range.1 ht)
      have e2 : (a (pos t)).getD 0 = x := e
      rw [h1] at e2
      have e3 : i = x := e2
      subst e3
      exact ⟨h2, by simp [h3]⟩)
  rw [List.length_cons, List.length_map, List.length_range] at hl
  exact hl
theorem ScanI.step (hs : Scan n c ins st) (hr : ScanR n c ins st R) (h : ScanI n c ins st m R a q k) :
    ScanI n c ins st m R (scStep c ins st (a, q) k).1 (scStep c ins st (a, q) k).2 (k + 1) := by
  cases hk : a k with
  | none =>
    have e0 : scStep c ins st (a, q) k = (a, q) := by simp only [scStep, hk]
    rw [e0]
    show ScanI n c ins st m R a q (k + 1)
    exact ⟨h.fit, h.low, h.mid, h.top, h.out, h.inj, (fun p j h1 h2 => by
      obtain ⟨p', h3, h4⟩ := h.prev p j h1 h2
      exact ⟨p', by omega, h4⟩), (fun p j h1 h2 h3 => by
      by_cases e : p = k
      · subst e; rw [hk] at h2; cases h2
      · exact h.done p j (by omega) h2 h3), h.sort⟩
  | some i =>
    by_cases hi : 0 < i ∧ ins (i - 1) = true
    · have e0 : scStep c ins st (a, q) k = (updF a (st (c (i - 1)) + q (c (i - 1))) (some (i - 1)), updF q (c (i - 1)) (q (c (i - 1)) + 1)) := by simp only [scStep, hk, if_pos hi]
      rw [e0]
      clear e0
      obtain ⟨j, rfl⟩ : ∃ j, i = j + 1 := ⟨i - 1, by omega⟩
      rw [Nat.add_sub_cancel] at hi ⊢
      obtain ⟨-, hj⟩ := hi
      obtain ⟨hin, t0, ht0, hkt, hq0, -⟩ := h.at_ hk
      have hjn : j < n := by omega
      obtain ⟨-, hn1, hn2⟩ := hs.next j hjn hj
      have hno : ∀ p, a p ≠ some j := fun p hp => by
        obtain ⟨p', h1, h2, h3⟩ := h.prev p j hp hj
        have := h.inj p' k (j + 1) h3 hk
        omega
      have hroom := h.room hjn hno
      obtain ⟨s, hse⟩ : ∃ s, s = c j := ⟨_, rfl⟩
      rw [← hse] at hroom hn1 hn2 ⊢
      obtain ⟨p0, hp0⟩ : ∃ p0, p0 = st s + q s := ⟨_, rfl⟩
      rw [← hp0]
      have hkp : k < p0 := by
        by_cases e : c (j + 1) = s
        · have := hq0 (hn2 e)
          rw [e] at this hkt
          omega
        · have := hn1 e
          omega
      have hnone : a p0 = none := by rw [hp0]; exact h.mid s (q s) (Nat.le_refl _) (by omega)
      have hfar : ∀ s' t, s' ≠ s → t < szC n c s' → st s' + t ≠ p0 := fun s' t hne ht e => by
        rcases hs.apart s' s hne with h1 | h1 <;> omega
      show ScanI n c ins st m R (updF a p0 (some j)) (updF q s (q s + 1)) (k + 1)
      refine ⟨fun s' => ?_, fun s' t ht => ?_, fun s' t h1 h2 => ?_, fun s' t h1 h2 => ?_, fun p i ha => ?_, fun p p' i h1 h2 => ?_, fun p j' h1 h2 => ?_, fun p j' h1 h2 h3 => ?_, fun p p' i i' hpp h1 h2 => ?_⟩
      · by_cases e : s' = s
        · subst e; rw [updF_at]; omega
        · rw [updF_ne _ _ e]; exact h.fit s'
      · by_cases e : s' = s
        · subst e
          rw [updF_at] at ht
          by_cases e2 : t = q s'
          · subst e2
            exact ⟨j, by rw [← hp0, updF_at], hjn, hse.symm, hj⟩
          · rw [updF_ne _ _ (by omega)]
            exact h.low s' t (by omega)
        · rw [updF_ne _ _ e] at ht
          rw [updF_ne _ _ (hfar s' t e (by have := h.fit s'; omega))]
          exact h.low s' t ht
      · by_cases e : s' = s
        · subst e
          rw [updF_at] at h1
          rw [updF_ne _ _ (by omega)]
          exact h.mid s' t (by omega) h2
        · rw [updF_ne _ _ e] at h1
          rw [updF_ne _ _ (hfar s' t e (by omega))]
          exact h.mid s' t h1 h2
      · have : st s' + t ≠ p0 := by
          by_cases e : s' = s
          · subst e; omega
          · exact hfar s' t e h2
        rw [updF_ne _ _ this]
        exact h.top s' t h1 h2
      · by_cases e : p = p0
        · exact ⟨s, q s, by omega, by rw [e, hp0]⟩
        · rw [updF_ne _ _ e] at ha
          exact h.out p i ha
      · by_cases e : p = p0
        · by_cases e' : p' = p0
          · rw [e, e']
          · rw [e, updF_at] at h1
            rw [updF_ne _ _ e'] at h2
            cases h1
            exact absurd h2 (hno p')
        · rw [updF_ne _ _ e] at h1
          by_cases e' : p' = p0
          · rw [e', updF_at] at h2
            cases h2
            exact absurd h1 (hno p)
          · rw [updF_ne _ _ e'] at h2
            exact h.inj p p' i h1 h2
      · by_cases e : p = p0
        · rw [e, updF_at] at h1
          cases h1
          exact ⟨k, by omega, by omega, by rw [updF_ne _ _ (by omega)]; exact hk⟩
        · rw [updF_ne _ _ e] at h1
          obtain ⟨p', h3, h4, h5⟩ := h.prev p j' h1 h2
          exact ⟨p', by omega, h4, by rw [updF_ne _ _ (by omega)]; exact h5⟩
      · rw [updF_ne _ _ (by omega)] at h2
        by_cases e : p = k
        · subst e
          rw [hk] at h2
          cases h2
          exact ⟨p0, updF_at _ _ _⟩
        · obtain ⟨p', h4⟩ := h.done p j' (by omega) h2 h3
          have : p' ≠ p0 := fun e => by rw [e, hnone] at h4; cases h4
          exact ⟨p', by rw [updF_ne _ _ this]; exact h4⟩
      · by_cases e : p = p0
        · have e' : p' ≠ p0 := by omega
          rw [e, updF_at] at h1
          cases h1
          rw [updF_ne _ _ e'] at h2
          obtain ⟨h3, t, h4, h5, h6, h7⟩ := h.at_ h2
          by_cases hc : c i' = s
          · rw [hc] at h4 h5 h6 h7
            cases hii : ins i' with
            | true => have := h6 hii; omega
            | false => exact hr.kind j i' hjn h3 (by rw [hc, hse]) hj hii
          · refine hr.code j i' hjn h3 (by rw [← hse]; exact fun e => hc e.symm) ?_
            rw [← hse]
            rcases hs.apart s (c i') (fun e => hc e.symm) with h8 | h8 <;> omega
        · rw [updF_ne _ _ e] at h1
          by_cases e' : p' = p0
          · rw [e', updF_at] at h2
            cases h2
            obtain ⟨h3, t, h4, h5, h6, h7⟩ := h.at_ h1
            by_cases hc : c i = s
            · have hii : ins i = true := by
                cases hii : ins i with
                | true => rfl
                | false =>
                  have := h7 hii
                  rw [hc] at this h5
                  omega
              obtain ⟨p1, h8, -, h9⟩ := h.prev p i h1 hii
              exact hr.step i j h3 hjn (by rw [hc, hse]) hii hj (h.sort p1 k (i + 1) (j + 1) h8 h9 hk)
            · refine hr.code i j h3 hjn (by rw [← hse]; exact hc) ?_
              rw [← hse]
              rcases hs.apart (c i) s hc with h8 | h8 <;> omega
          · rw [updF_ne _ _ e'] at h2
            exact h.sort p p' i i' hpp h1 h2
    · have e0 : scStep c ins st (a, q) k = (a, q) := by simp only [scStep, hk, if_neg hi]
      rw [e0]
      show ScanI n c ins st m R a q (k + 1)
      refine ⟨h.fit, h.low, h.mid, h.top, h.out, h.inj, fun p j h1 h2 => ?_, fun p j h1 h2 h3 => ?_, h.sort⟩
      · obtain ⟨p', h3, h4⟩ := h.prev p j h1 h2
        exact ⟨p', by omega, h4⟩
      · by_cases e : p = k
        · subst e
          rw [hk] at h2
          cases h2
          exact absurd ⟨by omega, by rw [Nat.add_sub_cancel]; exact h3⟩ hi
        · exact h.done p j (by omega) h2 h3
theorem ScanI.scan {a0 : Nat → Option Nat} (hs : Scan n c ins st) (hr : ScanR n c ins st R) (h : ScanI n c ins st m R a0 (fun _ => 0) 0) :
    ∀ k, ScanI n c ins st m R (scan c ins st a0 k).1 (scan c ins st a0 k).2 k
  | 0 => h
  | k + 1 => (ScanI.scan hs hr h k).step hs hr
/-- At the end all are put of which the first one stands there. -/
theorem ScanI.all (hs : Scan n c ins st) (h : ScanI n c ins st m R a q n) (hseed : ∀ j, j < n → ins j = true → ins (j + 1) = true ∨ ∃ p, a p = some (j + 1)) :
    ∀ d j, n = j + d → j < n → ins j = true → ∃ p, a p = some j
  | 0, j, h1, h2, _ => by omega
  | d + 1, j, h1, h2, h3 => by
    have h4 := (hs.next j h2 h3).1
    have h5 : ∃ p, a p = some (j + 1) := by
      rcases hseed j h2 h3 with h5 | h5
      · exact ScanI.all hs h hseed d (j + 1) (by omega) h4 h5
      · exact h5
    obtain ⟨p, hp⟩ := h5
    exact h.done p j (h.lt hs hp) hp h3
end
end Go.Inc
