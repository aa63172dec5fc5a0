/- PLAIN FACTS: extents joined where they touch; how many different numbers were put into a set. No walk. -/
import Derived.Test.YtlfpepkgnobjnaaExTell
import Derived.Test.YtlfpepkgnobjnaaBmI
namespace Go.Inc
open Go.RowKit

/-- One extent more: the last one grows where it begins at its end. -/
def growX (s : List Xt) (x : Xt) : List Xt := match s.getLast? with
  | none => [x]
  | some y => if y.1 + y.2 = x.1 then s.dropLast ++ [(y.1, y.2 + x.2)] else s ++ [x]
theorem growX_nil (x : Xt) : growX [] x = [x] := rfl
theorem growX_met {s : List Xt} {y x : Xt} (h : y.1 + y.2 = x.1) : growX (s ++ [y]) x = s ++ [(y.1, y.2 + x.2)] := by
  unfold growX
  rw [List.getLast?_concat]
  simp only
  rw [if_pos h, List.dropLast_concat]
theorem growX_new {s : List Xt} {y x : Xt} (h : y.1 + y.2 ≠ x.1) : growX (s ++ [y]) x = s ++ [y] ++ [x] := by
  unfold growX
  rw [List.getLast?_concat]
  simp only
  rw [if_neg h]
/-- The first k extents, joined. -/
def shX (xs : List Xt) : Nat → List Xt
  | 0 => []
  | k + 1 => growX (shX xs k) (xs.getD k (0, 0))
theorem touchAt_is {xs : List Xt} {j : Nat} : touchAt xs (j + 1) = decide ((xs.getD j (0, 0)).1 + (xs.getD j (0, 0)).2 = (xs.getD (j + 1) (0, 0)).1) := by
  unfold touchAt
  rw [Nat.add_sub_cancel, decide_eq_true (by omega), Bool.true_and]
/-- What they are. -/
structure ShX (xs : List Xt) (k : Nat) (s : List Xt) : Prop where
  last : 0 < k → ∃ l y, s = l ++ [y] ∧ y.1 + y.2 = (xs.getD (k - 1) (0, 0)).1 + (xs.getD (k - 1) (0, 0)).2
  zero : k = 0 → s = []
  len : s.length ≤ k
  fits : ∀ y ∈ s, 2 ≤ y.1 ∧ y.1 ≤ 2047 ∧ 1 ≤ y.2 ∧ y.2 ≤ sumX (xs.take k)
theorem shX_at (xs : List Xt) (hok : ∀ x ∈ xs, okX x = true) : ∀ k, k ≤ xs.length → ShX xs k (shX xs k)
  | 0, _ => ⟨fun h => by omega, fun _ => rfl, Nat.le_refl _, fun y hy => by simp [shX] at hy⟩
  | k + 1, hk => by
    have ih := shX_at xs hok k (by omega)
    have hx := okX_iff.1 (hok _ (memGetD (zs := xs) (d := (0, 0)) (k := k) (by omega)))
    have hsum : sumX (xs.take (k + 1)) = sumX (xs.take k) + (xs.getD k (0, 0)).2 := by rw [takeSnoc (d := (0, 0)) (by omega), sumX_snoc]
    have hs0 : 0 ≤ sumX (xs.take k) := by
      have := (sumX_bnd (xs.take k) fun y hy => hok y (List.mem_of_mem_take hy)).1
      omega
    obtain ⟨x, hxe⟩ : ∃ x, x = xs.getD k (0, 0) := ⟨_, rfl⟩
    rw [← hxe] at hx hsum
    have hr : shX xs (k + 1) = growX (shX xs k) x := by rw [hxe]; rfl
    rw [hr]
    by_cases h0 : k = 0
    · subst h0
      rw [ih.zero rfl, growX_nil]
      refine ⟨fun _ => ⟨[], x, rfl, by rw [Nat.add_sub_cancel, ← hxe]⟩, fun h => by omega, by simp, fun y hy => ?_⟩
      rw [List.mem_singleton] at hy
      subst hy
      omega
    · obtain ⟨l, y, hl, hy⟩ := ih.last (by omega)
      rw [hl]
      have hyf := ih.fits y (by rw [hl]; simp)
      have hlf : ∀ z ∈ l, 2 ≤ z.1 ∧ z.1 ≤ 2047 ∧ 1 ≤ z.2 ∧ z.2 ≤ sumX (xs.take (k + 1)) := fun z hz => by
        have := ih.fits z (by rw [hl]; simp [hz])
        omega
      have hlen := ih.len
      rw [hl] at hlen
      simp at hlen
      by_cases hm : y.1 + y.2 = x.1
      · rw [growX_met hm]
        refine ⟨fun _ => ⟨l, _, rfl, by rw [Nat.add_sub_cancel, ← hxe]; simp only; omega⟩, fun h => by omega, by simp; omega, fun z hz => ?_⟩
        rcases snocMem.1 hz with h | h
        · exact hlf z h
        · subst h; simp only; omega
      · rw [growX_new hm]
        refine ⟨fun _ => ⟨l ++ [y], x, rfl, by rw [Nat.add_sub_cancel, ← hxe]⟩, fun h => by omega, by simp; omega, fun z hz => ?_⟩
        rcases snocMem.1 hz with h | h
        · rcases snocMem.1 h with h | h
          · exact hlf z h
          · subst h; omega
        · subst h; omega
/-- How many they are: as many as before just where none touches the one ahead. -/
theorem shX_same (xs : List Xt) (hok : ∀ x ∈ xs, okX x = true) : ∀ k, k ≤ xs.length → (∀ i, i < k → touchAt xs i = false) → shX xs k = xs.take k
  | 0, _, _ => rfl
  | k + 1, hk, h => by
    have ih := shX_same xs hok k (by omega) fun i hi => h i (by omega)
    rw [takeSnoc (d := (0, 0)) (by omega), ← ih]
    show growX (shX xs k) _ = _
    by_cases h0 : k = 0
    · subst h0; rfl
    · obtain ⟨l, y, hl, hy⟩ := (shX_at xs hok k (by omega)).last (by omega)
      rw [hl]
      refine growX_new fun e => ?_
      have ht := h k (by omega)
      obtain ⟨j, rfl⟩ : ∃ j, k = j + 1 := ⟨k - 1, by omega⟩
      rw [touchAt_is, decide_eq_false_iff_not] at ht
      rw [Nat.add_sub_cancel] at hy
      exact ht (hy.symm.trans e)
theorem shX_less (xs : List Xt) (hok : ∀ x ∈ xs, okX x = true) : ∀ k, k ≤ xs.length → ∀ i, i < k → touchAt xs i = true → (shX xs k).length < k
  | 0, _, i, hi, _ => by omega
  | k + 1, hk, i, hi, ht => by
    show (growX (shX xs k) _).length < _
    have hs := shX_at xs hok k (by omega)
    have hlen := hs.len
    by_cases h0 : k = 0
    · subst h0
      rw [show i = 0 by omega] at ht
      cases ht
    · obtain ⟨l, y, hl, hy⟩ := hs.last (by omega)
      by_cases hik : i < k
      · have ih := shX_less xs hok k (by omega) i hik ht
        rw [hl] at ih ⊢
        simp at ih
        by_cases hm : y.1 + y.2 = (xs.getD k (0, 0)).1
        · rw [growX_met hm]; simp; omega
        · rw [growX_new hm]; simp; omega
      · rw [show i = k by omega] at ht
        obtain ⟨j, rfl⟩ : ∃ j, k = j + 1 := ⟨k - 1, by omega⟩
        rw [touchAt_is, decide_eq_true_eq] at ht
        rw [Nat.add_sub_cancel] at hy
        rw [hl] at hlen ⊢
        simp at hlen
        rw [growX_met (hy.trans ht)]
        simp; omega
/-- What is wrong with extents as pages; the short list. -/
def gaE (xs : List Xt) : Int := if badX xs = true then 10 else if 1024 < sumX xs then 2 else if ¬ (pagesX xs).Nodup then 8 else 0
def gaX (xs : List Xt) : List Xt := if gaE xs = 0 then shX xs xs.length else []
theorem gaE_bad {xs : List Xt} (h : badX xs = true) : gaE xs = 10 := if_pos h
theorem gaE_long {xs : List Xt} (h : badX xs = false) (h1 : 1024 < sumX xs) : gaE xs = 2 := by
  unfold gaE
  rw [if_neg (by rw [h]; decide), if_pos h1]
theorem gaE_twice {xs : List Xt} (h : badX xs = false) (h1 : sumX xs ≤ 1024) (h2 : ¬ (pagesX xs).Nodup) : gaE xs = 8 := by
  unfold gaE
  rw [if_neg (by rw [h]; decide), if_neg (by omega), if_pos h2]
theorem gaE_ok {xs : List Xt} (h : badX xs = false) (h1 : sumX xs ≤ 1024) (h2 : (pagesX xs).Nodup) : gaE xs = 0 := by
  unfold gaE
  rw [if_neg (by rw [h]; decide), if_neg (by omega), if_neg (fun hh => hh h2)]
theorem gaE_zero {xs : List Xt} (h : gaE xs = 0) : badX xs = false ∧ sumX xs ≤ 1024 ∧ (pagesX xs).Nodup := by
  unfold gaE at h
  split at h
  · cases h
  · rename_i h1
    split at h
    · cases h
    · rename_i h2
      split at h
      · cases h
      · rename_i h3
        exact ⟨by simpa using h1, by omega, Decidable.not_not.1 h3⟩
theorem gaE_bnd (xs : List Xt) : 0 ≤ gaE xs ∧ gaE xs ≤ 10 := by
  unfold gaE
  split
  · decide
  · split
    · decide
    · split <;> decide
/-- Check, out of it. -/
theorem chk_ga_bad {xs : List Xt} (h : gaE xs ≠ 0) : chkX xs = gaE xs := by
  unfold gaE at h ⊢
  unfold chkX
  split
  · rfl
  · split
    · rfl
    · split
      · rfl
      · rename_i h1 h2 h3
        rw [if_neg h1, if_neg h2, if_neg h3] at h
        exact absurd rfl h
theorem chk_ga_less {xs : List Xt} (h : gaE xs = 0) (hl : (gaX xs).length < xs.length) : chkX xs = 3 := by
  obtain ⟨h1, h2, h3⟩ := gaE_zero h
  refine chkX_touch h1 h2 h3 ?_
  cases ht : touchX xs
  · unfold gaX at hl
    rw [if_pos h, shX_same xs (badX_false.1 h1) _ (Nat.le_refl _) (touchX_false.1 ht), List.take_length] at hl
    omega
  · rfl
theorem chk_ga_same {xs : List Xt} (h : gaE xs = 0) (hl : ¬ (gaX xs).length < xs.length) : chkX xs = 0 := by
  obtain ⟨h1, h2, h3⟩ := gaE_zero h
  refine chkX_ok h1 h2 h3 ?_
  rw [touchX_false]
  intro i hi
  cases ht : touchAt xs i
  · rfl
  · refine absurd ?_ hl
    unfold gaX
    rw [if_pos h]
    exact shX_less xs (badX_false.1 h1) _ (Nat.le_refl _) i hi ht
theorem gaX_len (xs : List Xt) : (gaX xs).length ≤ xs.length := by
  unfold gaX
  split
  · rename_i h
    exact (shX_at xs (badX_false.1 (gaE_zero h).1) _ (Nat.le_refl _)).len
  · exact Nat.zero_le _
/-- Pages as extents of one page each. -/
def onesX (ps : List Int) : List Xt := ps.map fun p => (p, 1)
theorem onesX_len (ps : List Int) : (onesX ps).length = ps.length := by simp [onesX]
theorem onesX_snoc (ps : List Int) (p : Int) : onesX (ps ++ [p]) = onesX ps ++ [(p, 1)] := by simp [onesX]
theorem onesX_get {ps : List Int} {k : Nat} (h : k < ps.length) : (onesX ps).getD k (0, 0) = (ps.getD k 0, 1) := by
  rw [List.getD_eq_getElem?_getD, List.getD_eq_getElem?_getD, List.getElem?_eq_getElem h, List.getElem?_eq_getElem (by rw [onesX_len]; exact h)]
  simp [onesX]
theorem ones_ok {p : Int} : okX (p, 1) = (decide (2 ≤ p) && decide (p ≤ 2047)) := by
  rw [Bool.eq_iff_iff, okX_iff, Bool.and_eq_true, decide_eq_true_eq, decide_eq_true_eq]
  simp only
  omega
theorem ones_bad (ps : List Int) : badX (onesX ps) = outP ps := by
  cases h : outP ps
  · rw [badX_false]
    intro x hx
    obtain ⟨p, hp, rfl⟩ := List.mem_map.1 hx
    have := outP_false.1 h p hp
    exact okX_iff.2 (by simp only; omega)
  · unfold outP at h
    rw [List.any_eq_true] at h
    obtain ⟨z, hz, h2⟩ := h
    refine badX_true (x := (z, 1)) (List.mem_map.2 ⟨z, hz, rfl⟩) (Bool.eq_false_iff.2 fun hh => ?_)
    have := okX_iff.1 hh
    simp at h2 this
    omega
theorem ones_sum : ∀ ps : List Int, sumX (onesX ps) = (ps.length : Int)
  | [] => rfl
  | p :: r => by
    show (1 : Int) + sumX (onesX r) = _
    rw [ones_sum r, List.length_cons]
    omega
theorem ones_pages : ∀ ps : List Int, pagesX (onesX ps) = ps
  | [] => rfl
  | p :: r => by
    show pagesX1 (p, 1) ++ pagesX (onesX r) = _
    rw [ones_pages r]
    unfold pagesX1
    rw [show (1 : Int).toNat = 0 + 1 from rfl, partX_snoc]
    simp [partX]
theorem ones_run (ps : List Int) : ∀ k, k ≤ ps.length → shX (onesX ps) k = runX ps k
  | 0, _ => rfl
  | k + 1, hk => by
    have ih := ones_run ps k (by omega)
    have hr := runX_at ps k (by omega)
    show growX (shX (onesX ps) k) _ = _
    rw [ih, onesX_get (by omega)]
    by_cases h0 : k = 0
    · subst h0; rfl
    · obtain ⟨l, y, hl, hy, hy1⟩ := hr.last (by omega)
      by_cases hc : contAt ps k = true
      · have hc2 := hc
        unfold contAt at hc2
        simp only [Bool.and_eq_true, decide_eq_true_eq] at hc2
        have : runX ps (k + 1) = l ++ [(y.1, y.2 + 1)] := by
          conv => lhs; unfold runX
          rw [if_pos hc, hl, bumpX_snoc]
        rw [this, hl, growX_met (by simp only; omega)]
      · have hcf : contAt ps k = false := by simpa using hc
        rw [runX_new hcf, hl]
        refine growX_new fun e => hc ?_
        unfold contAt
        rw [decide_eq_true (by omega), Bool.true_and, decide_eq_true_eq]
        simp only at e
        omega
theorem ones_gaE (ps : List Int) : gaE (onesX ps) = ofE ps := by
  unfold gaE ofE
  rw [ones_bad, ones_sum, ones_pages]
  by_cases h : outP ps = true
  · rw [if_pos h, if_pos h]
  · rw [if_neg h, if_neg h]
    by_cases h2 : 1024 < ps.length
    · rw [if_pos h2, if_pos (by omega)]
    · rw [if_neg h2, if_neg (by omega)]
theorem ones_gaX (ps : List Int) : gaX (onesX ps) = ofX ps := by
  unfold gaX ofX
  rw [ones_gaE, onesX_len]
  split
  · exact ones_run ps _ (Nat.le_refl _)
  · rfl
end Go.Inc
namespace Go.Proofs.Ytlfpepkgnobjnaa
open Go.RowKit Go.Inc
theorem cnt_set {m : List Bool} {i : Nat} (h : i < m.length) (hb : inB m i = false) : ∀ n, cntTo (inB (m.set i true)) n = cntTo (inB m) n + (if i < n then 1 else 0)
  | 0 => by simp [cntTo, numsTo_zero]
  | n + 1 => by
    have ih := cnt_set h hb n
    by_cases e : n = i
    · subst e
      rw [cntTo_in (by rw [inB_set h, if_pos rfl]), ih, cntTo_out hb, if_neg (Nat.lt_irrefl _), if_pos (by omega)]
    · have h1 : inB (m.set i true) n = inB m n := by rw [inB_set h, if_neg e]
      have h2 : (if i < n + 1 then 1 else 0) = if i < n then 1 else 0 := by
        by_cases hh : i < n
        · rw [if_pos hh, if_pos (by omega)]
        · rw [if_neg hh, if_neg (by omega)]
      rw [h2]
      cases hn : inB m n
      · rw [cntTo_out (by rw [h1, hn]), cntTo_out hn, ih]
      · rw [cntTo_in (by rw [h1, hn]), cntTo_in hn, ih]; omega
/-- Numbers put into an empty set: which are there, how many. -/
structure PutAt (N : Nat) (zs : List Int) (k : Nat) (s : List Bool × Nat) : Prop where
  len : s.1.length = N
  bits : ∀ i, i < N → inB s.1 i = decide ((i : Int) ∈ zs.take k)
  cnt : cntTo (inB s.1) N = s.2
  le : s.2 ≤ k
  all : s.2 = k ↔ (zs.take k).Nodup
theorem putAt (N : Nat) (zs : List Int) (hz : ∀ z ∈ zs, 0 ≤ z ∧ z < N) : ∀ k, k ≤ zs.length → PutAt N zs k (putTo true (List.replicate N false) zs k)
  | 0, _ => ⟨by simp [putTo], fun i hi => by simp [putTo, inB_zeros], by
      show cntTo (inB (List.replicate N false)) N = 0
      have h0 : inB (List.replicate N false) = fun _ => false := funext fun i => inB_zeros N i
      rw [h0]
      have := cntTo_gap (f := fun _ => false) (k := 0) N fun _ _ _ => rfl
      rw [Nat.zero_add] at this
      rw [this]; rfl, Nat.le_refl _, by simp [putTo]⟩
  | k + 1, hk => by
    have ih := putAt N zs hz k (by omega)
    have hts := takeSnoc (bs := zs) (d := 0) (k := k) (by omega)
    have hzk := hz _ (memGetD (zs := zs) (d := 0) (k := k) (by omega))
    obtain ⟨z, he⟩ : ∃ z, z = zs.getD k 0 := ⟨_, rfl⟩
    rw [← he] at hts hzk
    obtain ⟨q, rfl⟩ := Int.eq_ofNat_of_zero_le hzk.1
    have hq : q < N := by omega
    have hs : putTo true (List.replicate N false) zs (k + 1) = setB true (putTo true (List.replicate N false) zs k) (q : Int) := by rw [he]; rfl
    rw [hs]
    generalize putTo true (List.replicate N false) zs k = s at ih
    have hb := ih.bits q hq
    unfold setB
    by_cases hm : (q : Int) ∈ zs.take k
    · rw [decide_eq_true hm] at hb
      rw [if_neg (by rw [hasB_nat, hb]; simp)]
      have hnd : ¬ (zs.take (k + 1)).Nodup := by rw [hts, snocNodup]; exact fun h => h.2 hm
      refine ⟨ih.len, fun i hi => ?_, ih.cnt, by have := ih.le; omega, ⟨fun h => by have := ih.le; omega, fun h => absurd h hnd⟩⟩
      rw [ih.bits i hi, hts, decide_eq_decide]
      constructor
      · intro h; exact snocMem.2 (.inl h)
      · intro h
        rcases snocMem.1 h with h | h
        · exact h
        · rw [h]; exact hm
    · rw [decide_eq_false hm] at hb
      rw [if_pos ⟨by omega, by rw [ih.len]; omega, by rw [hasB_nat, hb]; decide⟩]
      simp only [Int.toNat_natCast]
      have hql : q < s.1.length := by rw [ih.len]; exact hq
      refine ⟨by rw [List.length_set]; exact ih.len, fun i hi => ?_, by rw [cnt_set hql hb, ih.cnt, if_pos hq], by have := ih.le; omega, ?_⟩
      · rw [inB_set hql, ih.bits i hi, hts]
        by_cases e : i = q
        · subst e; simp
        · have e2 : ¬ (i : Int) = (q : Int) := by omega
          simp [e, e2]
      · rw [hts, snocNodup, ← ih.all]
        have := ih.le
        constructor
        · intro h; exact ⟨by omega, hm⟩
        · intro h; omega
theorem newB_cnt {N : Nat} {zs : List Int} (hz : ∀ z ∈ zs, 0 ≤ z ∧ z < N) : cntTo (inB (newB N zs)) (newB N zs).length ≤ zs.length ∧ (cntTo (inB (newB N zs)) (newB N zs).length = zs.length ↔ zs.Nodup) := by
  have h := putAt N zs hz zs.length (Nat.le_refl _)
  rw [newB_len]
  unfold newB
  rw [h.cnt]
  refine ⟨h.le, ?_⟩
  have := h.all
  rwa [List.take_length] at this
end Go.Proofs.Ytlfpepkgnobjnaa
