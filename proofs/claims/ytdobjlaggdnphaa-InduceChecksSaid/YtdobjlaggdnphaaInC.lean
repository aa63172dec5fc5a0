/- INDUCING, PLAIN: both scans; the order that comes of it. -/
import Derived.Test.YtdobjlaggdnphaaInB
namespace Go.Inc
section
variable {n : Nat} {c : Nat → Nat} {ins : Nat → Bool} {st m : Nat → Nat} {R : Nat → Nat → Prop} {a : Nat → Option Nat} {q : Nat → Nat} {k : Nat}
/-- What stands, stays. -/
theorem ScanI.step_keep (h : ScanI n c ins st m R a q k) {p i : Nat} (hp : a p = some i) : (scStep c ins st (a, q) k).1 p = some i := by
  cases hk : a k with
  | none =>
    have e0 : scStep c ins st (a, q) k = (a, q) := by simp only [scStep, hk]
    rw [e0]; exact hp
  | some i0 =>
    by_cases hi : 0 < i0 ∧ ins (i0 - 1) = true
    · have e0 : scStep c ins st (a, q) k = (updF a (st (c (i0 - 1)) + q (c (i0 - 1))) (some (i0 - 1)), updF q (c (i0 - 1)) (q (c (i0 - 1)) + 1)) := by simp only [scStep, hk, if_pos hi]
      rw [e0]
      obtain ⟨hin, t0, ht0, hkt, -, -⟩ := h.at_ hk
      have hno : ∀ p, a p ≠ some (i0 - 1) := fun p hp => by
        obtain ⟨p', h1, h2, h3⟩ := h.prev p _ hp hi.2
        rw [Nat.sub_add_cancel hi.1] at h3
        have := h.inj p' k _ h3 hk
        omega
      have hroom := h.room (show i0 - 1 < n by omega) hno
      have hnone := h.mid (c (i0 - 1)) (q (c (i0 - 1))) (Nat.le_refl _) (by omega)
      show updF a _ _ p = some i
      rw [updF_ne _ _ (fun e => by rw [e, hnone] at hp; cases hp)]
      exact hp
    · have e0 : scStep c ins st (a, q) k = (a, q) := by simp only [scStep, hk, if_neg hi]
      rw [e0]; exact hp
theorem ScanI.scan_keep {a0 : Nat → Option Nat} (hs : Scan n c ins st) (hr : ScanR n c ins st R) (h : ScanI n c ins st m R a0 (fun _ => 0) 0) {p i : Nat} (hp : a0 p = some i) : ∀ k, (Inc.scan c ins st a0 k).1 p = some i
  | 0 => hp
  | k + 1 => (ScanI.scan hs hr h k).step_keep (ScanI.scan_keep hs hr h hp k)
end
section
variable {n : Nat} {c : Nat → Nat} {K : Nat → Bool}
/-- The first scan. -/
def pass1 (n : Nat) (c : Nat → Nat) (K : Nat → Bool) (fs : List Nat) : ScSt := scan c (insL K) (hdC n c) (sow n c fs).1 n
/-- What is left of it: the Ls, and the last place; told from the end on. -/
def left1 (n : Nat) (c : Nat → Nat) (K : Nat → Bool) (fs : List Nat) (p : Nat) : Option Nat :=
  if p < n then match (pass1 n c K fs).1 (n - 1 - p) with | some i => if insS n K i = true then none else some i | none => none else none
/-- The second scan, from the end on. -/
def pass2 (n : Nat) (c : Nat → Nat) (K : Nat → Bool) (fs : List Nat) : ScSt := scan c (insS n K) (stS n c) (left1 n c K fs) n
/-- The order that is induced. -/
def indF (n : Nat) (c : Nat → Nat) (K : Nat → Bool) (fs : List Nat) : List Nat := (List.range n).map fun p => ((pass2 n c K fs).1 (n - 1 - p)).getD 0
variable {R R' : Nat → Nat → Prop}
/-- First Ss that may be sown. -/
structure SowOk (n : Nat) (c : Nat → Nat) (K : Nat → Bool) (R : Nat → Nat → Prop) (fs : List Nat) : Prop where
  nodup : fs.Nodup
  all : ∀ j, j ∈ fs ↔ msK n K j
  sort : fs.Pairwise fun f g => c f = c g → R f g
theorem pass1_ok (hT : Txt n c K) (hR : ByR n c K R R') {fs : List Nat} (hf : SowOk n c K R fs) :
    ScanI n c (insL K) (hdC n c) (sow n c fs).2 R (pass1 n c K fs).1 (pass1 n c K fs).2 n ∧ (∀ j, j < n → K j = false → ∃ p, (pass1 n c K fs).1 p = some j) ∧ (∀ f ∈ fs, ∃ p, (pass1 n c K fs).1 p = some f) := by
  obtain ⟨h0, -, hall, -⟩ := sow_ok hT fs hf.nodup (fun f h => by have := (hf.all f).1 h; exact ⟨this.2.1, this.2.2.1⟩) (fun f h g k hc => hR.code f g ((hf.all f).1 h).2.1 ((hf.all g).1 k).2.1 hc) hf.sort
  have h1 := ScanI.scan hT.scanL (hR.scanL hT) h0 n
  have hseed : ∀ f ∈ fs, ∃ p, (pass1 n c K fs).1 p = some f := fun f h => by
    obtain ⟨p, hp⟩ := hall f h
    exact ⟨p, ScanI.scan_keep hT.scanL (hR.scanL hT) h0 hp n⟩
  refine ⟨h1, fun j hj hk => ?_, hseed⟩
  refine ScanI.all hT.scanL h1 (fun j hj hi => ?_) (n - j) j (by omega) hj (insL_iff.2 hk)
  obtain ⟨h2, -, -⟩ := hT.L hj (insL_iff.1 hi)
  cases hk1 : K (j + 1) with
  | false => exact .inl (insL_iff.2 hk1)
  | true =>
    right
    exact hseed (j + 1) ((hf.all (j + 1)).2 ⟨by omega, h2, hk1, by rw [Nat.add_sub_cancel]; exact insL_iff.1 hi⟩)
theorem sz_zero (hT : Txt n c K) : szC n c 0 = 1 := by
  unfold szC
  have h1 : ((List.range n).filter fun i => c i == 0) = [n - 1] := by
    have e : List.range n = List.range (n - 1) ++ [n - 1] := by
      have h0 := List.range_succ (n := n - 1)
      rwa [show (n - 1).succ = n from Nat.sub_add_cancel hT.pos] at h0
    rw [e, List.filter_append]
    have h2 : (List.range (n - 1)).filter (fun i => c i == 0) = [] := by
      rw [List.filter_eq_nil_iff]
      intro i hi h
      have hi' := List.mem_range.1 hi
      have := (hT.zero i (by omega)).1 (by simpa using h)
      omega
    have h3 := (hT.zero (n - 1) (by have := hT.pos; omega)).2 (by have := hT.pos; omega)
    rw [h2, List.nil_append, List.filter_cons_of_pos (by simp [h3])]
    rfl
  rw [h1]; rfl
theorem hd_zero (n : Nat) (c : Nat → Nat) : hdC n c 0 = 0 := by
  unfold hdC
  rw [List.length_eq_zero_iff, List.filter_eq_nil_iff]
  intro i _ h
  simp at h
/-- How many there are to start the second scan with. -/
def seed2 (n : Nat) (c : Nat → Nat) (K : Nat → Bool) (fs : List Nat) (s : Nat) : Nat := if s = 0 then 1 else (pass1 n c K fs).2 s
theorem left1_ok (hT : Txt n c K) (hR : ByR n c K R R') {fs : List Nat} (hf : SowOk n c K R fs) (h1n : 1 < n) :
    ScanI n c (insS n K) (stS n c) (seed2 n c K fs) (fun i j => R' j i) (left1 n c K fs) (fun _ => 0) 0 := by
  obtain ⟨h, hL, hS⟩ := pass1_ok hT hR hf
  have hlast : n - 1 ∈ fs := by
    rw [hf.all]
    refine ⟨by omega, by omega, hT.last, ?_⟩
    cases hk : K (n - 1 - 1) with
    | false => rfl
    | true =>
      have h1 := (hT.S (show n - 1 - 1 + 1 < n by omega) hk).1
      have h2 := (hT.zero (n - 1) (by omega)).2 (by omega)
      have h3 : n - 1 - 1 + 1 = n - 1 := by omega
      rw [h3, h2] at h1
      have := (hT.zero (n - 1 - 1) (by omega)).1 (by omega)
      omega
  obtain ⟨a, ha⟩ : ∃ a, a = (pass1 n c K fs).1 := ⟨_, rfl⟩
  obtain ⟨q, hq⟩ : ∃ q, q = (pass1 n c K fs).2 := ⟨_, rfl⟩
  rw [← ha] at h hL hS
  rw [← hq] at h
  have hsz0 := sz_zero hT
  have hq0 : q 0 = 0 := by
    refine Classical.byContradiction fun h0 => ?_
    obtain ⟨i, h1, h2, h3, h4⟩ := h.low 0 0 (by omega)
    have h5 := (hT.zero i h2).1 h3
    have h6 := insL_iff.1 h4
    rw [show i = n - 1 by omega, hT.last] at h6
    cases h6
  have hp0 : a 0 = some (n - 1) := by
    obtain ⟨p, hp⟩ := hS _ hlast
    obtain ⟨h1, t, h2, h3, -, -⟩ := h.at_ hp
    have h4 := (hT.zero (n - 1) (by omega)).2 (by omega)
    rw [h4, hsz0] at h2
    rw [h4, hd_zero] at h3
    have : p = 0 := by omega
    rw [← this]; exact hp
  have hlf : ∀ p, left1 n c K fs p = if p < n then match a (n - 1 - p) with | some i => if insS n K i = true then none else some i | none => none else none := fun p => by unfold left1; rw [← ha]
  have hm2 : ∀ s, seed2 n c K fs s = if s = 0 then 1 else q s := fun s => by unfold seed2; rw [← hq]
  have hl_some : ∀ p i, left1 n c K fs p = some i → p < n ∧ a (n - 1 - p) = some i ∧ insS n K i = false := fun p i hp => by
    rw [hlf] at hp
    by_cases h1 : p < n
    · rw [if_pos h1] at hp
      cases h2 : a (n - 1 - p) with
      | none => rw [h2] at hp; cases hp
      | some j =>
        rw [h2] at hp
        simp only at hp
        by_cases h3 : insS n K j = true
        · rw [if_pos h3] at hp; cases hp
        · rw [if_neg h3] at hp
          cases hp
          exact ⟨h1, rfl, by simpa using h3⟩
    · rw [if_neg h1] at hp; cases hp
  have hl_is : ∀ p i, p < n → a (n - 1 - p) = some i → insS n K i = false → left1 n c K fs p = some i := fun p i h1 h2 h3 => by
    rw [hlf, if_pos h1, h2]
    simp only
    rw [if_neg (by rw [h3]; simp)]
  have hnot : ∀ i, insS n K i = false → K i = true → i = n - 1 := fun i h1 h2 => by
    refine Classical.byContradiction fun h3 => ?_
    rw [insS_iff.2 ⟨h2, h3⟩] at h1; cases h1
  refine ⟨fun s => ?_, fun s t h1 => absurd h1 (by omega), fun s t _ h2 => ?_, fun s t h1 h2 => ?_, fun p i h1 => ?_, fun p p' i h1 h2 => ?_, fun p j h1 h2 => ?_, fun p j h1 => absurd h1 (by omega), fun p p' i i' hpp h1 h2 => ?_⟩
  · rw [hm2]
    by_cases e : s = 0
    · subst e; rw [if_pos rfl, hsz0]; exact Nat.le_refl _
    · rw [if_neg e]
      have := h.fit s
      omega
  · rw [hm2] at h2
    by_cases e : s = 0
    · subst e; rw [if_pos rfl, hsz0] at h2; omega
    · rw [if_neg e] at h2
      have h3 := hdC_le n c (s + 1)
      have h4 := hdC_succ n c s
      cases hv : left1 n c K fs (stS n c s + t) with
      | none => rfl
      | some i =>
        obtain ⟨h5, h6, h7⟩ := hl_some _ _ hv
        have e2 : n - 1 - (stS n c s + t) = hdC n c s + (szC n c s - 1 - t) := by unfold stS; omega
        rw [e2] at h6
        obtain ⟨h8, t', h9, h10, h11, h12⟩ := h.at_ h6
        have hc : c i = s := by
          refine Classical.byContradiction fun h13 => ?_
          rcases hT.scanL.apart (c i) s h13 with h14 | h14 <;> omega
        rw [hc] at h9 h10 h11 h12
        cases hk : K i with
        | false => have := h11 (insL_iff.2 hk); omega
        | true =>
          have h13 := hnot i h7 hk
          have h14 := (hT.zero i h8).2 (by omega)
          omega
  · rw [hm2] at h1
    have h3 := hdC_le n c (s + 1)
    have h4 := hdC_succ n c s
    have e2 : n - 1 - (stS n c s + t) = hdC n c s + (szC n c s - 1 - t) := by unfold stS; omega
    by_cases e : s = 0
    · subst e
      rw [hsz0] at h2
      have h5 : n - 1 - (stS n c 0 + t) = 0 := by rw [e2, hsz0, hd_zero]; omega
      refine ⟨n - 1, hl_is _ _ (by unfold stS; omega) (by rw [h5]; exact hp0) ?_, by omega, (hT.zero (n - 1) (by omega)).2 (by omega), ?_⟩
      all_goals
        unfold insS; simp
    · rw [if_neg e] at h1
      have := h.fit s
      obtain ⟨i, h5, h6, h7, h8⟩ := h.low s (szC n c s - 1 - t) (by omega)
      have h9 : insS n K i = false := by unfold insS; rw [insL_iff.1 h8]; rfl
      exact ⟨i, hl_is _ _ (by unfold stS; omega) (by rw [e2]; exact h5) h9, h6, h7, h9⟩
  · obtain ⟨h2, h3, h4⟩ := hl_some p i h1
    obtain ⟨h5, t, h6, h7, -, -⟩ := h.at_ h3
    have h8 := hdC_le n c (c i + 1)
    have h9 := hdC_succ n c (c i)
    exact ⟨c i, szC n c (c i) - 1 - t, by omega, by unfold stS; omega⟩
  · obtain ⟨h3, h4, -⟩ := hl_some p i h1
    obtain ⟨h5, h6, -⟩ := hl_some p' i h2
    have := h.inj _ _ i h4 h6
    omega
  · obtain ⟨-, -, h3⟩ := hl_some p j h1
    rw [h2] at h3; cases h3
  · obtain ⟨h3, h4, h5⟩ := hl_some p i h1
    obtain ⟨h6, h7, h8⟩ := hl_some p' i' h2
    have h9 := h.sort (n - 1 - p') (n - 1 - p) i' i (by omega) h7 h4
    obtain ⟨h10, t, h11, h12, -, -⟩ := h.at_ h4
    obtain ⟨h13, t', h14, h15, -, -⟩ := h.at_ h7
    show R' i' i
    by_cases hc : c i' = c i
    · cases hk : K i with
      | true =>
        have h16 := hnot i h5 hk
        have h17 := (hT.zero i h10).2 (by omega)
        rw [h17] at hc
        have h18 := (hT.zero i' h13).1 hc
        have h20 : i' = i := by omega
        rw [h20] at h7
        have h19 := h.inj (n - 1 - p') (n - 1 - p) i h7 h4
        omega
      | false =>
        cases hk' : K i' with
        | true =>
          have h16 := hnot i' h8 hk'
          have h17 := (hT.zero i' h13).2 (by omega)
          rw [h17] at hc
          have h18 := (hT.zero i h10).1 hc.symm
          rw [show i = n - 1 by omega, hT.last] at hk
          cases hk
        | false => exact hR.both i' i h13 h10 hc hk' hk h9
    · refine hR.code' i' i h13 h10 ?_
      refine Classical.byContradiction fun h16 => ?_
      have h17 := hdC_mono n c (show c i + 1 ≤ c i' by omega)
      rw [hdC_succ] at h17
      omega
theorem pass2_ok (hT : Txt n c K) (hR : ByR n c K R R') {fs : List Nat} (hf : SowOk n c K R fs) (h1n : 1 < n) :
    ScanI n c (insS n K) (stS n c) (seed2 n c K fs) (fun i j => R' j i) (pass2 n c K fs).1 (pass2 n c K fs).2 n ∧ ∀ j, j < n → ∃ p, (pass2 n c K fs).1 p = some j := by
  have h0 := left1_ok hT hR hf h1n
  have h1 := ScanI.scan hT.scanS (hR.scanS hT) h0 n
  obtain ⟨hP, hL, hS⟩ := pass1_ok hT hR hf
  have hseed : ∀ j, j < n → insS n K j = false → ∃ p, (pass2 n c K fs).1 p = some j := fun j hj hi => by
    have : ∃ p, (pass1 n c K fs).1 p = some j := by
      cases hk : K j with
      | false => exact hL j hj hk
      | true =>
        have e : j = n - 1 := Classical.byContradiction fun h3 => by rw [insS_iff.2 ⟨hk, h3⟩] at hi; cases hi
        refine hS j ((hf.all j).2 ⟨by omega, hj, hk, ?_⟩)
        cases hk2 : K (j - 1) with
        | false => rfl
        | true =>
          have h2 := (hT.S (show j - 1 + 1 < n by omega) hk2).1
          have h3 := (hT.zero j hj).2 (by omega)
          rw [show j - 1 + 1 = j by omega, h3] at h2
          have := (hT.zero (j - 1) (by omega)).1 (by omega)
          omega
    obtain ⟨p, hp⟩ := this
    have hpn := hP.lt hT.scanL hp
    refine ⟨n - 1 - p, ScanI.scan_keep hT.scanS (hR.scanS hT) h0 ?_ n⟩
    unfold left1
    rw [if_pos (by omega), show n - 1 - (n - 1 - p) = p by omega, hp]
    simp only
    rw [if_neg (by rw [hi]; simp)]
  refine ⟨h1, fun j hj => ?_⟩
  cases hi : insS n K j with
  | false => exact hseed j hj hi
  | true =>
    refine ScanI.all hT.scanS h1 (fun j hj hi => ?_) (n - j) j (by omega) hj hi
    have h2 := (hT.scanS.next j hj hi).1
    cases h3 : insS n K (j + 1) with
    | true => exact .inl rfl
    | false => exact .inr (hseed (j + 1) h2 h3)
/-- The order is all places, by what it goes by. -/
theorem indF_ok (hT : Txt n c K) (hR : ByR n c K R R') {fs : List Nat} (hf : SowOk n c K R fs) (h1n : 1 < n) :
    (indF n c K fs).length = n ∧ (∀ j, j ∈ indF n c K fs ↔ j < n) ∧ (indF n c K fs).Pairwise R' ∧ (indF n c K fs).Nodup ∧ ∀ p, p < n → (pass2 n c K fs).1 p = some ((indF n c K fs).getD (n - 1 - p) 0) := by
  obtain ⟨h, hall⟩ := pass2_ok hT hR hf h1n
  obtain ⟨a, ha⟩ : ∃ a, a = (pass2 n c K fs).1 := ⟨_, rfl⟩
  have hd : indF n c K fs = (List.range n).map fun p => (a (n - 1 - p)).getD 0 := by unfold indF; rw [← ha]
  rw [← ha] at h hall ⊢
  have hfull : ∀ p, p < n → ∃ i, a p = some i := fun p hp => by
    cases hv : a p with
    | some i => exact ⟨i, rfl⟩
    | none =>
      have hpos : ∀ j, ∃ p', j < n → a p' = some j := fun j => by
        by_cases hj : j < n
        · obtain ⟨p', h1⟩ := hall j hj; exact ⟨p', fun _ => h1⟩
        · exact ⟨0, fun h => absurd h hj⟩
      let f := fun j => Classical.choose (hpos j)
      have hf : ∀ j, j < n → a (f j) = some j := fun j hj => Classical.choose_spec (hpos j) hj
      have h1 := nodup_le (l := p :: (List.range n).map f) (m := List.range n) (by
        rw [List.nodup_cons]
        refine ⟨fun hm => ?_, nodup_map fun x y hx hy e => ?_⟩
        · obtain ⟨j, hj, e⟩ := List.mem_map.1 hm
          have := hf j (List.mem_range.1 hj)
          rw [e, hv] at this; cases this
        · have h2 := hf x hx
          rw [e, hf y hy] at h2
          exact (Option.some.inj h2).symm) (fun x hx => by
        rw [List.mem_range]
        rcases List.mem_cons.1 hx with rfl | hx
        · exact hp
        · obtain ⟨j, hj, rfl⟩ := List.mem_map.1 hx
          exact h.lt hT.scanS (hf j (List.mem_range.1 hj)))
      rw [List.length_cons, List.length_map, List.length_range] at h1
      omega
  have hval : ∀ p, p < n → a p = some ((a p).getD 0) := fun p hp => by
    obtain ⟨i, hi⟩ := hfull p hp
    rw [hi]; rfl
  refine ⟨by rw [hd, List.length_map, List.length_range], fun j => ?_, ?_, ?_, fun p hp => ?_⟩
  · rw [hd, List.mem_map]
    constructor
    · rintro ⟨p, hp, e⟩
      have h1 := hval (n - 1 - p) (by have := List.mem_range.1 hp; omega)
      rw [e] at h1
      exact (h.at_ h1).1
    · intro hj
      obtain ⟨p, hp⟩ := hall j hj
      have h1 := h.lt hT.scanS hp
      exact ⟨n - 1 - p, List.mem_range.2 (by omega), by rw [show n - 1 - (n - 1 - p) = p by omega, hp]; rfl⟩
  · rw [hd, List.pairwise_map]
    refine (List.pairwise_lt_range (n := n)).imp_of_mem fun {x y} hx hy hxy => ?_
    have hx' := List.mem_range.1 hx
    have hy' := List.mem_range.1 hy
    exact h.sort (n - 1 - y) (n - 1 - x) _ _ (by omega) (hval _ (by omega)) (hval _ (by omega))
  · rw [hd]
    refine nodup_map fun x y hx hy e => ?_
    have h1 := hval (n - 1 - x) (by omega)
    have h2 := hval (n - 1 - y) (by omega)
    rw [e] at h1
    have := h.inj _ _ _ h1 h2
    omega
  · rw [hd, List.getD_eq_getElem?_getD, List.getElem?_map, List.getElem?_eq_getElem (by rw [List.length_range]; omega)]
    simp only [List.getElem_range, Option.map_some, Option.getD_some]
    rw [show n - 1 - (n - 1 - p) = p by omega]
    exact hval p hp
end
end Go.Inc
