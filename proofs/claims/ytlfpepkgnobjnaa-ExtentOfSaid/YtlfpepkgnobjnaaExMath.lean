/- PLAIN FACTS OF EXTENTS: the pages of a list, what is wrong with it, the list of pages. No program is named here. -/
import Derived.Test.YtlfpepkgnobjnaaGen
namespace Go.Inc
open Go.RowKit

/-- An extent: its first page, and how many. -/
abbrev Xt := Int × Int
def okX (x : Xt) : Bool := decide (2 ≤ x.1) && decide (x.1 ≤ 2047) && decide (1 ≤ x.2) && decide (x.2 ≤ 2048 - x.1)
theorem okX_iff {x : Xt} : okX x = true ↔ 2 ≤ x.1 ∧ x.1 ≤ 2047 ∧ 1 ≤ x.2 ∧ x.2 ≤ 2048 - x.1 := by
  unfold okX
  simp only [Bool.and_eq_true, decide_eq_true_eq]
  constructor
  · rintro ⟨⟨⟨h1, h2⟩, h3⟩, h4⟩; exact ⟨h1, h2, h3, h4⟩
  · rintro ⟨h1, h2, h3, h4⟩; exact ⟨⟨⟨h1, h2⟩, h3⟩, h4⟩
/-- The first k pages of an extent; all its pages. -/
def partX (x : Xt) (k : Nat) : List Int := (List.range k).map fun i : Nat => x.1 + (i : Int)
def pagesX1 (x : Xt) : List Int := partX x x.2.toNat
theorem partX_len (x : Xt) (k : Nat) : (partX x k).length = k := by simp [partX]
theorem partX_snoc (x : Xt) (k : Nat) : partX x (k + 1) = partX x k ++ [x.1 + (k : Int)] := by
  unfold partX
  rw [List.range_succ, List.map_append]; rfl
theorem partX_mem {x : Xt} {k : Nat} {z : Int} : z ∈ partX x k ↔ x.1 ≤ z ∧ z < x.1 + k := by
  unfold partX
  rw [List.mem_map]
  constructor
  · rintro ⟨i, hi, rfl⟩
    rw [List.mem_range] at hi
    omega
  · intro h
    exact ⟨(z - x.1).toNat, List.mem_range.2 (by omega), by omega⟩
/-- All pages of a list. -/
def pagesX (xs : List Xt) : List Int := xs.flatMap pagesX1
theorem pagesX_nil : pagesX [] = [] := rfl
theorem pagesX_snoc (xs : List Xt) (x : Xt) : pagesX (xs ++ [x]) = pagesX xs ++ pagesX1 x := by
  unfold pagesX
  rw [List.flatMap_append]
  simp
theorem pagesX_app (xs ys : List Xt) : pagesX (xs ++ ys) = pagesX xs ++ pagesX ys := by
  unfold pagesX
  rw [List.flatMap_append]
/-- How many. -/
def sumX : List Xt → Int
  | [] => 0
  | x :: xs => x.2 + sumX xs
theorem sumX_app : ∀ (xs ys : List Xt), sumX (xs ++ ys) = sumX xs + sumX ys
  | [], ys => by simp [sumX]
  | x :: xs, ys => by
    rw [List.cons_append]
    show x.2 + sumX (xs ++ ys) = x.2 + sumX xs + sumX ys
    rw [sumX_app xs ys]
    omega
theorem sumX_snoc (xs : List Xt) (x : Xt) : sumX (xs ++ [x]) = sumX xs + x.2 := by
  rw [sumX_app]; simp [sumX]
theorem sumX_bnd : ∀ (xs : List Xt), (∀ x ∈ xs, okX x = true) → (xs.length : Int) ≤ sumX xs ∧ sumX xs ≤ 2046 * (xs.length : Int)
  | [], _ => by simp [sumX]
  | x :: xs, h => by
    have ih := sumX_bnd xs fun y hy => h y (List.mem_cons_of_mem _ hy)
    have hx := okX_iff.1 (h x (List.mem_cons_self ..))
    unfold sumX
    rw [List.length_cons]
    omega
theorem pagesX_len : ∀ (xs : List Xt), (∀ x ∈ xs, okX x = true) → ((pagesX xs).length : Int) = sumX xs
  | [], _ => rfl
  | x :: xs, h => by
    have ih := pagesX_len xs fun y hy => h y (List.mem_cons_of_mem _ hy)
    have hx := okX_iff.1 (h x (List.mem_cons_self ..))
    unfold sumX
    rw [show pagesX (x :: xs) = pagesX1 x ++ pagesX xs from rfl, List.length_append]
    unfold pagesX1
    rw [partX_len]
    omega
theorem pagesX_in {xs : List Xt} (h : ∀ x ∈ xs, okX x = true) : ∀ z ∈ pagesX xs, 2 ≤ z ∧ z ≤ 2047 := by
  intro z hz
  unfold pagesX at hz
  rw [List.mem_flatMap] at hz
  obtain ⟨x, hx, hzx⟩ := hz
  have h1 := okX_iff.1 (h x hx)
  have h2 := partX_mem.1 hzx
  omega
/-- Does the i-th begin where the one ahead of it ends? -/
def touchAt (xs : List Xt) (i : Nat) : Bool := decide (0 < i) && decide ((xs.getD (i - 1) (0, 0)).1 + (xs.getD (i - 1) (0, 0)).2 = (xs.getD i (0, 0)).1)
def touchX (xs : List Xt) : Bool := (List.range xs.length).any (touchAt xs)
theorem touchX_true {xs : List Xt} {i : Nat} (h : i < xs.length) (ht : touchAt xs i = true) : touchX xs = true := by
  unfold touchX
  rw [List.any_eq_true]
  exact ⟨i, List.mem_range.2 h, ht⟩
theorem touchX_false {xs : List Xt} : touchX xs = false ↔ ∀ i, i < xs.length → touchAt xs i = false := by
  unfold touchX
  rw [List.any_eq_false]
  constructor
  · intro h i hi
    have := h i (List.mem_range.2 hi)
    simpa using this
  · intro h i hi
    rw [h i (List.mem_range.1 hi)]; decide
/-- What is wrong with a list. -/
def badX (xs : List Xt) : Bool := xs.any fun x => !okX x
theorem badX_true {xs : List Xt} {x : Xt} (hx : x ∈ xs) (h : okX x = false) : badX xs = true := by
  unfold badX
  rw [List.any_eq_true]
  exact ⟨x, hx, by rw [h]; rfl⟩
theorem badX_false {xs : List Xt} : badX xs = false ↔ ∀ x ∈ xs, okX x = true := by
  unfold badX
  rw [List.any_eq_false]
  constructor
  · intro h x hx
    have := h x hx
    simpa using this
  · intro h x hx
    rw [h x hx]; decide
def chkX (xs : List Xt) : Int := if badX xs = true then 10 else if 1024 < sumX xs then 2 else if ¬ (pagesX xs).Nodup then 8 else if touchX xs = true then 3 else 0
theorem chkX_bad {xs : List Xt} (h : badX xs = true) : chkX xs = 10 := if_pos h
theorem chkX_long {xs : List Xt} (h : badX xs = false) (h1 : 1024 < sumX xs) : chkX xs = 2 := by
  unfold chkX
  rw [if_neg (by rw [h]; decide), if_pos h1]
theorem chkX_twice {xs : List Xt} (h : badX xs = false) (h1 : sumX xs ≤ 1024) (h2 : ¬ (pagesX xs).Nodup) : chkX xs = 8 := by
  unfold chkX
  rw [if_neg (by rw [h]; decide), if_neg (by omega), if_pos h2]
theorem chkX_touch {xs : List Xt} (h : badX xs = false) (h1 : sumX xs ≤ 1024) (h2 : (pagesX xs).Nodup) (h3 : touchX xs = true) : chkX xs = 3 := by
  unfold chkX
  rw [if_neg (by rw [h]; decide), if_neg (by omega), if_neg (fun hh => hh h2), if_pos h3]
theorem chkX_ok {xs : List Xt} (h : badX xs = false) (h1 : sumX xs ≤ 1024) (h2 : (pagesX xs).Nodup) (h3 : touchX xs = false) : chkX xs = 0 := by
  unfold chkX
  rw [if_neg (by rw [h]; decide), if_neg (by omega), if_neg (fun hh => hh h2), if_neg (by rw [h3]; decide)]
theorem chkX_zero {xs : List Xt} (h : chkX xs = 0) : badX xs = false ∧ sumX xs ≤ 1024 ∧ (pagesX xs).Nodup ∧ touchX xs = false := by
  unfold chkX at h
  split at h
  · cases h
  · rename_i h1
    split at h
    · cases h
    · rename_i h2
      split at h
      · cases h
      · rename_i h3
        split at h
        · cases h
        · rename_i h4
          exact ⟨by simpa using h1, by omega, Decidable.not_not.1 h3, by simpa using h4⟩
theorem chkX_bnd (xs : List Xt) : 0 ≤ chkX xs ∧ chkX xs ≤ 10 := by
  unfold chkX
  split
  · decide
  · split
    · decide
    · split
      · decide
      · split <;> decide
/-- Does the k-th page go on where the one ahead of it stands? -/
def contAt (ps : List Int) (k : Nat) : Bool := decide (0 < k) && decide (ps.getD (k - 1) 0 + 1 = ps.getD k 0)
/-- The last one grows by one. -/
def bumpX (xs : List Xt) : List Xt := match xs.getLast? with
  | none => []
  | some x => xs.dropLast ++ [(x.1, x.2 + 1)]
theorem bumpX_snoc (xs : List Xt) (x : Xt) : bumpX (xs ++ [x]) = xs ++ [(x.1, x.2 + 1)] := by
  unfold bumpX
  rw [List.getLast?_concat, List.dropLast_concat]
/-- The first k pages as runs. -/
def runX (ps : List Int) : Nat → List Xt
  | 0 => []
  | k + 1 => if contAt ps k = true then bumpX (runX ps k) else runX ps k ++ [(ps.getD k 0, 1)]
theorem runX_new {ps : List Int} {k : Nat} (h : contAt ps k = false) : runX ps (k + 1) = runX ps k ++ [(ps.getD k 0, 1)] := by
  conv => lhs; unfold runX
  rw [if_neg (by rw [h]; decide)]
/-- What the runs are: the last one ends where the last page stands; they have just these pages. -/
structure RunsX (ps : List Int) (k : Nat) (xs : List Xt) : Prop where
  last : 0 < k → ∃ l x, xs = l ++ [x] ∧ x.1 + x.2 = ps.getD (k - 1) 0 + 1 ∧ 1 ≤ x.2
  pages : pagesX xs = ps.take k
  pos : ∀ x ∈ xs, 1 ≤ x.2
  len : xs.length ≤ k
  short : ∀ i, i < xs.length → touchAt xs i = false
theorem runX_at (ps : List Int) : ∀ k, k ≤ ps.length → RunsX ps k (runX ps k)
  | 0, _ => ⟨fun h => by omega, by simp [runX, pagesX], by simp [runX], Nat.le_refl _, fun i hi => by simp [runX] at hi⟩
  | k + 1, hk => by
    have ih := runX_at ps k (by omega)
    have hts := takeSnoc (bs := ps) (d := 0) (k := k) (by omega)
    by_cases hc : contAt ps k = true
    · have hc2 := hc
      unfold contAt at hc2
      simp only [Bool.and_eq_true, decide_eq_true_eq] at hc2
      obtain ⟨l, x, hl, hx, hx1⟩ := ih.last hc2.1
      have hr : runX ps (k + 1) = l ++ [(x.1, x.2 + 1)] := by
        conv => lhs; unfold runX
        rw [if_pos hc, hl, bumpX_snoc]
      rw [hr]
      refine ⟨fun _ => ⟨l, _, rfl, ?_, by simp only; omega⟩, ?_, ?_, ?_, ?_⟩
      · simp only [Nat.add_sub_cancel]; omega
      · have hp := ih.pages
        rw [hl, pagesX_snoc] at hp
        rw [pagesX_snoc, hts, ← hp, List.append_assoc]
        congr 1
        unfold pagesX1
        rw [show (x.2 + 1).toNat = x.2.toNat + 1 by omega]
        rw [show partX (x.1, x.2 + 1) (x.2.toNat + 1) = partX x (x.2.toNat + 1) from rfl, partX_snoc]
        congr 2
        omega
      · intro y hy
        rcases snocMem.1 hy with h | h
        · exact ih.pos y (by rw [hl]; exact snocMem.2 (.inl h))
        · subst h; simp only; omega
      · have := ih.len
        rw [hl] at this
        simp at this ⊢
        omega
      · intro i hi
        have hs := ih.short i (by rw [hl]; simpa using hi)
        rw [hl] at hs
        unfold touchAt at hs ⊢
        have e1 : ∀ j, j < l.length → (l ++ [(x.1, x.2 + 1)]).getD j (0, 0) = (l ++ [x]).getD j (0, 0) := fun j hj => by
          rw [List.getD_eq_getElem?_getD, List.getD_eq_getElem?_getD, List.getElem?_append_left hj, List.getElem?_append_left hj]
        simp at hi
        by_cases h0 : i = 0
        · subst h0; rfl
        · rw [e1 (i - 1) (by omega)]
          by_cases hil : i < l.length
          · rw [e1 i hil]; exact hs
          · have e2 : i = l.length := by omega
            subst e2
            have e3 : (l ++ [(x.1, x.2 + 1)]).getD l.length (0, 0) = (x.1, x.2 + 1) := by simp
            have e4 : (l ++ [x]).getD l.length (0, 0) = x := by simp
            rw [e3]
            rw [e4] at hs
            exact hs
    · have hc' : contAt ps k = false := by simpa using hc
      rw [runX_new hc']
      refine ⟨fun _ => ⟨runX ps k, _, rfl, by simp only [Nat.add_sub_cancel], by simp only; omega⟩, ?_, ?_, ?_, ?_⟩
      · rw [pagesX_snoc, ih.pages, hts]
        congr 1
        unfold pagesX1
        rw [show (1 : Int).toNat = 0 + 1 from rfl, partX_snoc]
        simp [partX]
      · intro y hy
        rcases snocMem.1 hy with h | h
        · exact ih.pos y h
        · subst h; simp only; omega
      · have := ih.len
        simp; omega
      · intro i hi
        simp at hi
        by_cases hil : i < (runX ps k).length
        · have hs := ih.short i hil
          unfold touchAt at hs ⊢
          have e1 : ∀ j, j < (runX ps k).length → (runX ps k ++ [(ps.getD k 0, 1)]).getD j (0, 0) = (runX ps k).getD j (0, 0) := fun j hj => by
            rw [List.getD_eq_getElem?_getD, List.getElem?_append_left hj, ← List.getD_eq_getElem?_getD]
          rw [e1 i hil, e1 (i - 1) (by omega)]
          exact hs
        · have e2 : i = (runX ps k).length := by omega
          subst e2
          by_cases h0 : 0 < k
          · obtain ⟨l, x, hl, hx, hx1⟩ := ih.last h0
            unfold touchAt
            have e3 : (runX ps k ++ [(ps.getD k 0, 1)]).getD (runX ps k).length (0, 0) = (ps.getD k 0, 1) := by simp
            rw [e3, hl]
            have e4 : (l ++ [x] ++ [(ps.getD k 0, 1)]).getD ((l ++ [x]).length - 1) (0, 0) = x := by simp
            rw [e4]
            have hne : ¬ (x.1 + x.2 = ps.getD k 0) := fun e => by
              unfold contAt at hc'
              rw [decide_eq_true h0, Bool.true_and, decide_eq_false_iff_not] at hc'
              omega
            simp only [decide_eq_false hne, Bool.and_false]
          · have h00 : k = 0 := by omega
            subst h00
            unfold touchAt
            simp [runX]
/-- What is wrong with pages; their list. -/
def outP (ps : List Int) : Bool := ps.any fun z => decide (z < 2) || decide (2047 < z)
theorem outP_true {zs : List Int} {z : Int} (hz : z ∈ zs) (h : z < 2 ∨ 2047 < z) : outP zs = true := by
  unfold outP
  rw [List.any_eq_true]
  exact ⟨z, hz, by simpa using h⟩
theorem outP_false {zs : List Int} : outP zs = false ↔ ∀ z ∈ zs, 2 ≤ z ∧ z ≤ 2047 := by
  unfold outP
  rw [List.any_eq_false]
  constructor
  · intro h z hz
    have := h z hz
    simp at this
    omega
  · intro h z hz
    have := h z hz
    simp
    omega
def ofE (ps : List Int) : Int := if outP ps = true then 10 else if 1024 < ps.length then 2 else if ¬ ps.Nodup then 8 else 0
def ofX (ps : List Int) : List Xt := if ofE ps = 0 then runX ps ps.length else []
theorem ofE_out {ps : List Int} (h : outP ps = true) : ofE ps = 10 := if_pos h
theorem ofE_long {ps : List Int} (h : outP ps = false) (h1 : 1024 < ps.length) : ofE ps = 2 := by
  unfold ofE
  rw [if_neg (by rw [h]; decide), if_pos h1]
theorem ofE_twice {ps : List Int} (h : outP ps = false) (h1 : ps.length ≤ 1024) (h2 : ¬ ps.Nodup) : ofE ps = 8 := by
  unfold ofE
  rw [if_neg (by rw [h]; decide), if_neg (by omega), if_pos h2]
theorem ofE_ok {ps : List Int} (h : outP ps = false) (h1 : ps.length ≤ 1024) (h2 : ps.Nodup) : ofE ps = 0 := by
  unfold ofE
  rw [if_neg (by rw [h]; decide), if_neg (by omega), if_neg (fun hh => hh h2)]
theorem ofE_zero {ps : List Int} (h : ofE ps = 0) : outP ps = false ∧ ps.length ≤ 1024 ∧ ps.Nodup := by
  unfold ofE at h
  split at h
  · cases h
  · rename_i h1
    split at h
    · cases h
    · rename_i h2
      split at h
      · cases h
      · rename_i h3
        exact ⟨by simpa using h1, by omega, Decidable.not_not.1 h3⟩
theorem ofE_bnd (ps : List Int) : 0 ≤ ofE ps ∧ ofE ps ≤ 10 := by
  unfold ofE
  split
  · decide
  · split
    · decide
    · split <;> decide
/-- The list of right pages is right, and its pages are these. -/
theorem ofX_pages {ps : List Int} (h : ofE ps = 0) : pagesX (ofX ps) = ps := by
  unfold ofX
  rw [if_pos h, (runX_at ps _ (Nat.le_refl _)).pages, List.take_length]
theorem ofX_ok {ps : List Int} (h : ofE ps = 0) : ∀ x ∈ ofX ps, okX x = true := by
  intro x hx
  have hz := ofE_zero h
  have hp := ofX_pages h
  have hpos : 1 ≤ x.2 := by
    unfold ofX at hx
    rw [if_pos h] at hx
    exact (runX_at ps _ (Nat.le_refl _)).pos x hx
  have hin : ∀ z ∈ pagesX1 x, 2 ≤ z ∧ z ≤ 2047 := fun z hz2 => outP_false.1 hz.1 z (by
    rw [← hp]
    unfold pagesX
    exact List.mem_flatMap.2 ⟨x, hx, hz2⟩)
  have h1 := hin x.1 (partX_mem.2 (by omega))
  have h2 := hin (x.1 + x.2 - 1) (partX_mem.2 (by omega))
  exact okX_iff.2 (by omega)
theorem ofX_chk {ps : List Int} (h : ofE ps = 0) : chkX (ofX ps) = 0 := by
  have hz := ofE_zero h
  have hp := ofX_pages h
  have hl := pagesX_len (ofX ps) (ofX_ok h)
  rw [hp] at hl
  refine chkX_ok (badX_false.2 (ofX_ok h)) (by omega) (by rw [hp]; exact hz.2.2) (touchX_false.2 ?_)
  unfold ofX
  rw [if_pos h]
  exact (runX_at ps _ (Nat.le_refl _)).short
theorem ofX_len {ps : List Int} : (ofX ps).length ≤ ps.length := by
  unfold ofX
  split
  · exact (runX_at ps _ (Nat.le_refl _)).len
  · exact Nat.zero_le _
end Go.Inc
