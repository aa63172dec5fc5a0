/- INDUCING, PLAIN: texts; from the first Ss in the order of their suffixes comes the order of all. -/
import Derived.Test.YtdobjlaggdnphaaInC
namespace Go.Inc
/-- A text's codes. -/
def cdT (x : List Int) (i : Nat) : Nat := (x.getD i 0).toNat
theorem in_cell {x : List Int} {i : Nat} (h : i < x.length) : x.getD i 0 ∈ x := by
  rw [List.getD_eq_getElem?_getD, List.getElem?_eq_getElem h]
  exact List.getElem_mem h
theorem drop_at {x : List Int} {i : Nat} (h : i < x.length) : x.drop i = x.getD i 0 :: x.drop (i + 1) := by
  rw [List.drop_eq_getElem_cons h, List.getD_eq_getElem?_getD, List.getElem?_eq_getElem h]; rfl
theorem lsT_step {x : List Int} {i j : Nat} (hi : i < x.length) (hj : j < x.length) : lsT x i j = true ↔ x.getD i 0 < x.getD j 0 ∨ (x.getD i 0 = x.getD j 0 ∧ lsT x (i + 1) (j + 1) = true) := by
  unfold lsT
  rw [drop_at hi, drop_at hj, ltL_cons]
/-- A text of codes that aren't below 0. -/
structure InT (x : List Int) : Prop where
  right : RtL x
  nat : ∀ z ∈ x, 0 ≤ z
theorem InT.of {x : List Int} (h : ckT x = 0) : InT x := by
  obtain ⟨-, h2, h3⟩ := ckT_zero h
  exact ⟨h3, fun z hz => (h2 z hz).1⟩
theorem InT.cd {x : List Int} (h : InT x) {i : Nat} (hi : i < x.length) : x.getD i 0 = (cdT x i : Int) := by
  have := h.nat _ (in_cell hi)
  unfold cdT; omega
theorem InT.txt {x : List Int} (h : InT x) : Txt x.length (cdT x) (kdT x) where
  pos := h.right.1
  last := by
    unfold kdT
    rw [decide_eq_true (by have := h.right.1; omega)]; rfl
  zero i hi := by
    rw [← h.right.2 i hi, h.cd hi]
    omega
  kind i hi := by
    have h1 : kdT x i = lsT x i (i + 1) := by
      unfold kdT
      rw [decide_eq_false (by omega), Bool.false_or]
    rw [h1, lsT_step (by omega) hi, h.cd (show i < x.length by omega), h.cd hi]
    have h2 : (cdT x i : Int) = (cdT x (i + 1) : Int) → (lsT x (i + 1) (i + 1 + 1) = true ↔ kdT x (i + 1) = true) := fun e => by
      by_cases hl : i + 1 + 1 = x.length
      · have h3 := (h.right.2 (i + 1) hi).2 hl
        rw [h.cd hi] at h3
        have h4 := (h.right.2 i (by omega)).1 (by rw [h.cd (by omega)]; omega)
        omega
      · unfold kdT
        rw [decide_eq_false hl, Bool.false_or]
    constructor
    · rintro (h3 | ⟨h3, h4⟩)
      · exact .inl (by omega)
      · exact .inr ⟨by omega, (h2 h3).1 h4⟩
    · rintro (h3 | ⟨h3, h4⟩)
      · exact .inl (by omega)
      · exact .inr ⟨by omega, (h2 (by omega)).2 h4⟩
/-- One of kind L is ahead of one of kind S. -/
theorem InT.ls {x : List Int} (h : InT x) : ∀ d i j, x.length = i + d → i < x.length → j < x.length → cdT x i = cdT x j → kdT x i = false → kdT x j = true → lsT x i j = true
  | 0, i, j, h1, h2, _, _, _, _ => by omega
  | d + 1, i, j, h1, h2, h3, h4, h5, h6 => by
    obtain ⟨h7, h8, h9⟩ := h.txt.L h2 h5
    have hj : j + 1 < x.length := by
      refine Classical.byContradiction fun h10 => ?_
      have h11 := (h.txt.zero j h3).2 (by omega)
      rw [← h4] at h11
      have h12 := (h.txt.zero i h2).1 h11
      omega
    obtain ⟨h10, h11⟩ := h.txt.S hj h6
    rw [lsT_step h2 h3, h.cd h2, h.cd h3]
    right
    refine ⟨by omega, ?_⟩
    by_cases h12 : cdT x (i + 1) < cdT x (j + 1)
    · rw [lsT_step h7 hj, h.cd h7, h.cd hj]
      exact .inl (by omega)
    · exact InT.ls h d (i + 1) (j + 1) (by omega) h7 hj (by omega) (h9 (by omega)) (h11 (by omega)).1
def leS (x : List Int) (i j : Nat) : Prop := i = j ∨ lsT x i j = true
theorem InT.byS {x : List Int} (h : InT x) : ByR x.length (cdT x) (kdT x) (leS x) (leS x) := by
  have hc : ∀ i j, i < x.length → j < x.length → cdT x i < cdT x j → leS x i j := fun i j hi hj hc => .inr (by
    rw [lsT_step hi hj, h.cd hi, h.cd hj]; exact .inl (by omega))
  have hk : ∀ i j, i < x.length → j < x.length → cdT x i = cdT x j → kdT x i = false → kdT x j = true → leS x i j := fun i j hi hj hc h1 h2 =>
    .inr (h.ls (x.length - i) i j (by omega) hi hj hc h1 h2)
  have hs : ∀ i j, i + 1 < x.length → j + 1 < x.length → cdT x i = cdT x j → leS x (i + 1) (j + 1) → leS x i j := fun i j hi hj hc hl => by
    rcases hl with e | hl
    · exact .inl (by omega)
    · right
      rw [lsT_step (by omega) (by omega), h.cd (show i < x.length by omega), h.cd (show j < x.length by omega)]
      exact .inr ⟨by omega, hl⟩
  exact ⟨hc, hc, hk, hk, fun i j hi hj hc _ _ => hs i j hi hj hc, fun i j hi hj hc _ _ => hs i j hi hj hc, fun _ _ _ _ _ _ _ hl => hl⟩
theorem inF_mem {x : List Int} : ∀ {n j : Nat}, j ∈ fsT x n ↔ 0 < j ∧ j < n ∧ kdT x j = true ∧ kdT x (j - 1) = false
  | 0, j => by
    constructor
    · intro h; cases h
    · rintro ⟨-, h, -⟩; omega
  | n + 1, j => by
    show j ∈ (if 0 < n ∧ kdT x n = true ∧ kdT x (n - 1) = false then fsT x n ++ [n] else fsT x n) ↔ _
    split
    · rename_i h
      rw [List.mem_append, inF_mem, List.mem_singleton]
      constructor
      · rintro (h1 | rfl)
        · exact ⟨h1.1, by omega, h1.2.2⟩
        · exact ⟨h.1, by omega, h.2⟩
      · rintro ⟨h1, h2, h3⟩
        by_cases e : j = n
        · exact .inr e
        · exact .inl ⟨h1, by omega, h3⟩
    · rename_i h
      rw [inF_mem]
      constructor
      · rintro ⟨h1, h2, h3⟩; exact ⟨h1, by omega, h3⟩
      · rintro ⟨h1, h2, h3⟩
        by_cases e : j = n
        · subst e; exact absurd ⟨h1, h3⟩ h
        · exact ⟨h1, by omega, h3⟩
theorem inF_rise {x : List Int} : ∀ n, (fsT x n).Pairwise fun a b => a < b
  | 0 => List.Pairwise.nil
  | n + 1 => by
    show (if 0 < n ∧ kdT x n = true ∧ kdT x (n - 1) = false then fsT x n ++ [n] else fsT x n).Pairwise _
    split
    · rw [List.pairwise_append]
      refine ⟨inF_rise n, List.pairwise_singleton _ _, fun a ha b hb => ?_⟩
      obtain rfl : b = n := by simpa using hb
      exact (inF_mem.1 ha).2.1
    · exact inF_rise n
/-- The order that is induced from first Ss. -/
def indT (x : List Int) (fs : List Nat) : List Nat := if x.length = 1 then [0] else indF x.length (cdT x) (kdT x) fs
/-- The first Ss, in any order. -/
def isFs (x : List Int) (fs : List Nat) : Prop := fs.Nodup ∧ ∀ j, j ∈ fs ↔ j ∈ fsT x x.length
theorem InT.two {x : List Int} (h : InT x) (h1 : x.length ≠ 1) : 1 < x.length := by have := h.right.1; omega
/-- From the first Ss in the order of their suffixes comes the order of all. -/
theorem ind_sort {x : List Int} (h : InT x) : indT x ((srT x x.length).filter fun j => decide (j ∈ fsT x x.length)) = srT x x.length := by
  by_cases h1 : x.length = 1
  · unfold indT
    rw [if_pos h1, h1]
    show [0] = insT x [] 0
    rfl
  · have h2 := h.two h1
    have hsr := srT_sorted (x := x) (Nat.le_refl _)
    have hf : SowOk x.length (cdT x) (kdT x) (leS x) ((srT x x.length).filter fun j => decide (j ∈ fsT x x.length)) := by
      refine ⟨(nodup_rise hsr).filter _, fun j => ?_, (hsr.filter _).imp fun {a b} hab _ => .inr hab⟩
      rw [List.mem_filter, srT_mem, decide_eq_true_iff, inF_mem]
      unfold msK
      constructor
      · rintro ⟨-, h3⟩; exact h3
      · intro h3; exact ⟨h3.2.1, h3⟩
    obtain ⟨h3, h4, h5, h6, -⟩ := indF_ok h.txt h.byS hf h2
    unfold indT
    rw [if_neg h1]
    refine srT_is ?_ h4
    rw [List.nodup_iff_pairwise_ne] at h6
    exact h5.imp₂ (fun {a b} h7 h8 => h7.resolve_left h8) h6
end Go.Inc
