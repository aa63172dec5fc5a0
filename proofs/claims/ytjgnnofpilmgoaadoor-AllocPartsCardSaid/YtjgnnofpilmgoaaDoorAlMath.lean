/- PLAIN FACTS OF KINDS: of each page what it is; what the calls make of it. No walk here. -/
import Derived.Test.YtjgnnofpilmgoaaDoorBmSz
namespace Go.Proofs.YtjgnnofpilmgoaaDoor
open Go.RowKit Go.Inc

/-- The kind of a page. -/
def kd (ks : List Nat) (i : Nat) : Nat := ks.getD i 0
def mkK (n : Nat) (f : Nat → Nat) : List Nat := (List.range n).map f
theorem mkK_len (n : Nat) (f : Nat → Nat) : (mkK n f).length = n := by simp [mkK]
theorem kd_mkK {n : Nat} {f : Nat → Nat} {i : Nat} (h : i < n) : kd (mkK n f) i = f i := by
  unfold kd mkK
  rw [List.getD_eq_getElem?_getD, List.getElem?_map, List.getElem?_range h]; rfl
theorem kd_far {ks : List Nat} {i : Nat} (h : ks.length ≤ i) : kd ks i = 0 := by
  unfold kd
  rw [List.getD_eq_getElem?_getD, List.getElem?_eq_none h]; rfl
theorem ext_kd {a b : List Nat} (hl : a.length = b.length) (h : ∀ i, i < a.length → kd a i = kd b i) : a = b := by
  apply List.ext_getElem hl
  intro i h1 h2
  have := h i h1
  unfold kd at this
  rw [List.getD_eq_getElem?_getD, List.getD_eq_getElem?_getD, List.getElem?_eq_getElem h1, List.getElem?_eq_getElem h2] at this
  exact this
theorem kd_set {ks : List Nat} {i : Nat} (h : i < ks.length) (k j : Nat) : kd (ks.set i k) j = if j = i then k else kd ks j := by
  unfold kd
  simp only [List.getD_eq_getElem?_getD, List.getElem?_set]
  by_cases hj : i = j
  · subst hj; simp [h]
  · have : ¬ j = i := fun h => hj h.symm
    simp [hj, this]
theorem kd_map {ks : List Nat} {i : Nat} (f : Nat → Nat) (h : i < ks.length) : kd (ks.map f) i = f (kd ks i) := by
  unfold kd
  rw [List.getD_eq_getElem?_getD, List.getD_eq_getElem?_getD, List.getElem?_map, List.getElem?_eq_getElem h]; rfl

/-- The pages of these kinds, as a set. -/
def setK (p : Nat → Bool) (ks : List Nat) : List Bool := ks.map p
theorem setK_len (p : Nat → Bool) (ks : List Nat) : (setK p ks).length = ks.length := by simp [setK]
theorem inB_setK {p : Nat → Bool} {ks : List Nat} {i : Nat} (h : i < ks.length) : inB (setK p ks) i = p (kd ks i) := by
  unfold inB setK kd
  rw [List.getD_eq_getElem?_getD, List.getD_eq_getElem?_getD, List.getElem?_map, List.getElem?_eq_getElem h]; rfl
theorem setK_set {p : Nat → Bool} {ks : List Nat} (i k : Nat) : setK p (ks.set i k) = (setK p ks).set i (p k) := by unfold setK; rw [List.map_set]
theorem setK_same {p : Nat → Bool} {ks : List Nat} {i k : Nat} (hi : i < ks.length) (h : p k = p (kd ks i)) : setK p (ks.set i k) = setK p ks := by
  apply ext_inB (by rw [setK_len, setK_len, List.length_set])
  intro j hj
  rw [setK_len, List.length_set] at hj
  rw [inB_setK (by rw [List.length_set]; exact hj), inB_setK hj, kd_set hi]
  split
  · rename_i e; rw [e]; exact h
  · rfl
/-- The pages of these kinds, rising. -/
def pagesK (p : Nat → Bool) (ks : List Nat) : List Nat := numsTo (fun i => p (kd ks i)) ks.length
theorem nums_setK (p : Nat → Bool) (ks : List Nat) : numsTo (inB (setK p ks)) (setK p ks).length = pagesK p ks := by
  rw [setK_len]
  exact numsTo_congr fun i hi => inB_setK hi
def intsK (p : Nat → Bool) (ks : List Nat) : List Int := (pagesK p ks).map fun x : Nat => (x : Int)
theorem numsI_setK (p : Nat → Bool) (ks : List Nat) : numsI (setK p ks) = intsK p ks := by unfold numsI intsK; rw [nums_setK]
theorem pagesK_mem {p : Nat → Bool} {ks : List Nat} {i : Nat} : i ∈ pagesK p ks ↔ i < ks.length ∧ p (kd ks i) = true := numsTo_mem
theorem intsK_mem {p : Nat → Bool} {ks : List Nat} {z : Int} : z ∈ intsK p ks ↔ ∃ i : Nat, z = i ∧ i < ks.length ∧ p (kd ks i) = true := by
  unfold intsK
  rw [List.mem_map]
  constructor
  · rintro ⟨x, hx, rfl⟩; exact ⟨x, rfl, pagesK_mem.1 hx⟩
  · rintro ⟨i, rfl, h⟩; exact ⟨i, pagesK_mem.2 h, rfl⟩
theorem intsK_mem_nat {p : Nat → Bool} {ks : List Nat} {i : Nat} : ((i : Int) ∈ intsK p ks) ↔ (i < ks.length ∧ p (kd ks i) = true) := by
  rw [intsK_mem]
  constructor
  · rintro ⟨x, h, h1⟩
    obtain rfl : i = x := by omega
    exact h1
  · intro h; exact ⟨i, rfl, h⟩
theorem pagesK_nodup (p : Nat → Bool) (ks : List Nat) : (pagesK p ks).Nodup := by
  unfold pagesK numsTo
  exact List.Pairwise.filter _ List.nodup_range
theorem intsK_nodup (p : Nat → Bool) (ks : List Nat) : (intsK p ks).Nodup := by
  unfold intsK
  exact List.Pairwise.map _ (fun a b h e => h (by omega)) (pagesK_nodup p ks)
theorem intsK_len (p : Nat → Bool) (ks : List Nat) : (intsK p ks).length = (pagesK p ks).length := by simp [intsK]
theorem pagesK_len (p : Nat → Bool) (ks : List Nat) : (pagesK p ks).length ≤ ks.length := numsTo_len _ _

theorem mem_snoc {l : List Int} {z i : Int} : i ∈ l ++ [z] ↔ i ∈ l ∨ i = z := by simp
/-! Numbers put in and taken out. -/
theorem inB_putTo (b : Bool) (m : List Bool) (zs : List Int) : ∀ k, k ≤ zs.length → ∀ i, i < m.length → inB (putTo b m zs k).1 i = if (i : Int) ∈ zs.take k then b else inB m i
  | 0, _, i, _ => by simp [putTo]
  | k + 1, hk, i, hi => by
    have ih := inB_putTo b m zs k (by omega) i hi
    have hl := putTo_len b m zs k
    rw [takeI_snoc (bs := zs) (k := k) (by omega)]
    unfold putTo
    generalize zs.getD k 0 = z at *
    generalize putTo b m zs k = s at *
    simp only [mem_snoc]
    unfold setB
    split
    · rename_i h
      obtain ⟨h1, h2, h3⟩ := h
      obtain ⟨q, rfl⟩ := Int.eq_ofNat_of_zero_le h1
      have hq : q < s.1.length := by omega
      rw [show (Int.toNat (q : Int)) = q from rfl]
      simp only
      rw [inB_set hq]
      by_cases e : i = q
      · subst e; simp
      · have e2 : ¬ (i : Int) = (q : Int) := by omega
        simp only [e, e2, or_false, if_false]
        exact ih
    · rename_i h
      by_cases e : (i : Int) = z
      · subst e
        have h3 : hasB s.1 (i : Int) = b := by
          have : ¬ (hasB s.1 (i : Int) ≠ b) := fun hne => h ⟨by omega, by omega, hne⟩
          simpa using this
        rw [hasB_nat] at h3
        rw [h3]
        simp
      · simp only [e, or_false]
        exact ih
theorem inB_putAll (b : Bool) (m : List Bool) (zs : List Int) {i : Nat} (hi : i < m.length) : inB (putTo b m zs zs.length).1 i = if (i : Int) ∈ zs then b else inB m i := by
  rw [inB_putTo b m zs _ (Nat.le_refl _) i hi, List.take_length]
theorem putTo_one {b : Bool} {m : List Bool} {z : Nat} (hz : z < m.length) : putTo b m [(z : Int)] [(z : Int)].length = if inB m z = b then (m, 0) else (m.set z b, 1) := by
  show setB b (m, 0) (([(z : Int)] : List Int).getD 0 0) = _
  show setB b (m, 0) (z : Int) = _
  unfold setB
  rw [hasB_nat]
  by_cases h : inB m z = b
  · rw [if_neg (fun hh => hh.2.2 h), if_pos h]
  · rw [if_pos ⟨by omega, by simp only; omega, h⟩, if_neg h]; rfl

/-! Kinds as they may be. -/
structure Ks (ks : List Nat) : Prop where
  n2 : 2 ≤ ks.length
  n2048 : ks.length ≤ 2048
  k0 : kd ks 0 = 0
  k1 : kd ks 1 = 0
  rest : ∀ i, 2 ≤ i → i < ks.length → 1 ≤ kd ks i ∧ kd ks i ≤ 4
def isC (k : Nat) : Bool := decide (k = 2) || decide (k = 4)
def isS (k : Nat) : Bool := decide (k = 3)
def isP (k : Nat) : Bool := decide (k = 4)
def isF (k : Nat) : Bool := decide (k = 1)
theorem isS_iff {k : Nat} : isS k = true ↔ k = 3 := by simp [isS]
theorem isP_iff {k : Nat} : isP k = true ↔ k = 4 := by simp [isP]
theorem isF_iff {k : Nat} : isF k = true ↔ k = 1 := by simp [isF]
theorem isC_iff {k : Nat} : isC k = true ↔ k = 2 ∨ k = 4 := by simp [isC]
/-- Pages of a kind come to be of another. -/
def mapK (f : Nat → Nat) (ks : List Nat) : List Nat := ks.map f
theorem mapK_len (f : Nat → Nat) (ks : List Nat) : (mapK f ks).length = ks.length := by simp [mapK]
def cK (k : Nat) : Nat := if k = 4 then 1 else if k = 3 then 2 else k
def aK (k : Nat) : Nat := if k = 3 then 1 else if k = 4 then 2 else k
theorem Ks.map {ks : List Nat} (h : Ks ks) {f : Nat → Nat} (h0 : f 0 = 0) (hf : ∀ k, 1 ≤ k → k ≤ 4 → 1 ≤ f k ∧ f k ≤ 4) : Ks (mapK f ks) := by
  refine ⟨by rw [mapK_len]; exact h.n2, by rw [mapK_len]; exact h.n2048, ?_, ?_, ?_⟩
  · unfold mapK; rw [kd_map f (by have := h.n2; omega), h.k0, h0]
  · unfold mapK; rw [kd_map f (by have := h.n2; omega), h.k1, h0]
  · intro i h1 h2
    rw [mapK_len] at h2
    unfold mapK; rw [kd_map f h2]
    exact hf _ (h.rest i h1 h2).1 (h.rest i h1 h2).2
theorem Ks.commit {ks : List Nat} (h : Ks ks) : Ks (mapK cK ks) := h.map rfl fun k h1 h2 => by
  obtain rfl | rfl | rfl | rfl : k = 1 ∨ k = 2 ∨ k = 3 ∨ k = 4 := by omega
  all_goals decide
theorem Ks.abort {ks : List Nat} (h : Ks ks) : Ks (mapK aK ks) := h.map rfl fun k h1 h2 => by
  obtain rfl | rfl | rfl | rfl : k = 1 ∨ k = 2 ∨ k = 3 ∨ k = 4 := by omega
  all_goals decide
/-- Pages that come to be of a kind. -/
def putK (ks : List Nat) (zs : List Int) (k : Nat) : List Nat := mkK ks.length fun i => if (i : Int) ∈ zs then k else kd ks i
theorem putK_len (ks : List Nat) (zs : List Int) (k : Nat) : (putK ks zs k).length = ks.length := mkK_len _ _
theorem kd_putK {ks : List Nat} {zs : List Int} {k i : Nat} (hi : i < ks.length) : kd (putK ks zs k) i = if (i : Int) ∈ zs then k else kd ks i := kd_mkK hi
theorem putK_nil (ks : List Nat) (k : Nat) : putK ks [] k = ks := ext_kd (putK_len _ _ _) fun i hi => by
  rw [putK_len] at hi
  rw [kd_putK hi]; simp
theorem putK_snoc {ks : List Nat} {zs : List Int} {k z : Nat} (hz : z < ks.length) : putK ks (zs ++ [(z : Int)]) k = (putK ks zs k).set z k := ext_kd (by rw [putK_len, List.length_set, putK_len]) fun i hi => by
  rw [putK_len] at hi
  rw [kd_putK hi, kd_set (by rw [putK_len]; exact hz), kd_putK hi]
  simp only [mem_snoc]
  by_cases h1 : i = z
  · simp [h1]
  · have h2 : ¬ (i : Int) = (z : Int) := by omega
    simp [h1, h2]
/-- Pages that are given. -/
def gK (k : Nat) : Nat := if k = 3 then 1 else 4
def giveK (ks : List Nat) (zs : List Int) : List Nat := mkK ks.length fun i => if (i : Int) ∈ zs then gK (kd ks i) else kd ks i
theorem giveK_len (ks : List Nat) (zs : List Int) : (giveK ks zs).length = ks.length := mkK_len _ _
theorem kd_giveK {ks : List Nat} {zs : List Int} {i : Nat} (hi : i < ks.length) : kd (giveK ks zs) i = if (i : Int) ∈ zs then gK (kd ks i) else kd ks i := kd_mkK hi
theorem giveK_nil (ks : List Nat) : giveK ks [] = ks := ext_kd (giveK_len _ _) fun i hi => by
  rw [giveK_len] at hi
  rw [kd_giveK hi]; simp
theorem kd_giveK_new {ks : List Nat} {zs : List Int} {z : Nat} (hz : z < ks.length) (hn : (z : Int) ∉ zs) : kd (giveK ks zs) z = kd ks z := by rw [kd_giveK hz, if_neg hn]
theorem giveK_snoc {ks : List Nat} {zs : List Int} {z : Nat} (hz : z < ks.length) : giveK ks (zs ++ [(z : Int)]) = (giveK ks zs).set z (gK (kd ks z)) := ext_kd (by rw [giveK_len, List.length_set, giveK_len]) fun i hi => by
  rw [giveK_len] at hi
  rw [kd_giveK hi, kd_set (by rw [giveK_len]; exact hz), kd_giveK hi]
  simp only [mem_snoc]
  by_cases h1 : i = z
  · simp [h1]
  · have h2 : ¬ (i : Int) = (z : Int) := by omega
    simp [h1, h2]
/-- Is one out of range? -/
def outR (n : Nat) (zs : List Int) : Bool := zs.any fun z => decide (z < 2) || decide ((n : Int) ≤ z)
theorem outR_true {n : Nat} {zs : List Int} {z : Int} (hz : z ∈ zs) (h : z < 2 ∨ (n : Int) ≤ z) : outR n zs = true := by
  unfold outR
  rw [List.any_eq_true]
  exact ⟨z, hz, by simpa using h⟩
theorem outR_false {n : Nat} {zs : List Int} : outR n zs = false ↔ ∀ z ∈ zs, 2 ≤ z ∧ z < n := by
  unfold outR
  rw [List.any_eq_false]
  constructor
  · intro h z hz
    have := h z hz
    simp at this
    omega
  · intro h z hz
    have := h z hz
    simp
    omega
theorem Ks.put {ks : List Nat} (h : Ks ks) {zs : List Int} {k : Nat} (hz : ∀ z ∈ zs, 2 ≤ z ∧ z < (ks.length : Int)) (h1 : 1 ≤ k) (h4 : k ≤ 4) : Ks (putK ks zs k) := by
  refine ⟨by rw [putK_len]; exact h.n2, by rw [putK_len]; exact h.n2048, ?_, ?_, ?_⟩
  · rw [kd_putK (by have := h.n2; omega), if_neg (fun hm => by have := hz _ hm; omega), h.k0]
  · rw [kd_putK (by have := h.n2; omega), if_neg (fun hm => by have := hz _ hm; omega), h.k1]
  · intro i h2 h3
    rw [putK_len] at h3
    rw [kd_putK h3]
    split
    · exact ⟨h1, h4⟩
    · exact h.rest i h2 h3
theorem Ks.give {ks : List Nat} (h : Ks ks) {zs : List Int} (hz : ∀ z ∈ zs, 2 ≤ z ∧ z < (ks.length : Int)) : Ks (giveK ks zs) := by
  refine ⟨by rw [giveK_len]; exact h.n2, by rw [giveK_len]; exact h.n2048, ?_, ?_, ?_⟩
  · rw [kd_giveK (by have := h.n2; omega), if_neg (fun hm => by have := hz _ hm; omega), h.k0]
  · rw [kd_giveK (by have := h.n2; omega), if_neg (fun hm => by have := hz _ hm; omega), h.k1]
  · intro i h2 h3
    rw [giveK_len] at h3
    rw [kd_giveK h3]
    split
    · unfold gK; split <;> omega
    · exact h.rest i h2 h3
/-- What a list of pages is told: out of range, then one that is of no right kind, or told twice. -/
def chkE (ks : List Nat) (zs : List Int) (good : Nat → Bool) (wrong : Int) : Int := if outR ks.length zs = true then 10 else if (zs.all fun z => good (kd ks z.toNat)) = true ∧ zs.Nodup then 0 else wrong
theorem chkE_out {ks : List Nat} {zs : List Int} {good : Nat → Bool} {wrong : Int} (h : outR ks.length zs = true) : chkE ks zs good wrong = 10 := if_pos h
theorem chkE_bad {ks : List Nat} {zs : List Int} {good : Nat → Bool} {wrong : Int} (h : outR ks.length zs = false) {z : Int} (hz : z ∈ zs) (hb : good (kd ks z.toNat) = false) : chkE ks zs good wrong = wrong := by
  unfold chkE
  rw [if_neg (by rw [h]; decide), if_neg (fun hh => by rw [List.all_eq_true.1 hh.1 z hz] at hb; cases hb)]
theorem chkE_twice {ks : List Nat} {zs : List Int} {good : Nat → Bool} {wrong : Int} (h : outR ks.length zs = false) (hn : ¬ zs.Nodup) : chkE ks zs good wrong = wrong := by
  unfold chkE
  rw [if_neg (by rw [h]; decide), if_neg (fun hh => hn hh.2)]
theorem chkE_ok {ks : List Nat} {zs : List Int} {good : Nat → Bool} {wrong : Int} (h : outR ks.length zs = false) (hg : ∀ z ∈ zs, good (kd ks z.toNat) = true) (hn : zs.Nodup) : chkE ks zs good wrong = 0 := by
  unfold chkE
  rw [if_neg (by rw [h]; decide), if_pos ⟨List.all_eq_true.2 hg, hn⟩]
theorem chkE_zero {ks : List Nat} {zs : List Int} {good : Nat → Bool} {wrong : Int} (hw : wrong ≠ 0) (h : chkE ks zs good wrong = 0) : (∀ z ∈ zs, 2 ≤ z ∧ z < (ks.length : Int)) ∧ (∀ z ∈ zs, good (kd ks z.toNat) = true) ∧ zs.Nodup := by
  unfold chkE at h
  split at h
  · cases h
  · rename_i ho
    split at h
    · rename_i hg
      exact ⟨outR_false.1 (by simpa using ho), List.all_eq_true.1 hg.1, hg.2⟩
    · exact absurd h hw
theorem nodup_snoc {l : List Int} {z : Int} : (l ++ [z]).Nodup ↔ l.Nodup ∧ z ∉ l := by
  rw [List.nodup_append]
  constructor
  · rintro ⟨h1, _, h3⟩
    exact ⟨h1, fun h => h3 z h z (by simp) rfl⟩
  · rintro ⟨h1, h2⟩
    refine ⟨h1, by simp, fun a ha b hb e => ?_⟩
    simp at hb
    subst hb; subst e
    exact h2 ha
theorem not_nodup_take {zs : List Int} {k : Nat} (h : ¬ (zs.take k).Nodup) : ¬ zs.Nodup := fun hn => h (hn.sublist (List.take_sublist _ _))
theorem getD_mem {zs : List Int} {k : Nat} (h : k < zs.length) : zs.getD k 0 ∈ zs := by
  rw [List.getD_eq_getElem?_getD, List.getElem?_eq_getElem h]
  exact List.getElem_mem h
/-- New ones: all free but the first two. -/
def freshK (n : Nat) : List Nat := mkK n fun i => if i < 2 then 0 else 1
theorem freshK_len (n : Nat) : (freshK n).length = n := mkK_len _ _
theorem kd_freshK {n i : Nat} (h : i < n) : kd (freshK n) i = if i < 2 then 0 else 1 := kd_mkK h
theorem Ks.fresh {n : Nat} (h2 : 2 ≤ n) (h : n ≤ 2048) : Ks (freshK n) := by
  refine ⟨by rw [freshK_len]; exact h2, by rw [freshK_len]; exact h, ?_, ?_, ?_⟩
  · rw [kd_freshK (by omega)]; rfl
  · rw [kd_freshK (by omega)]; rfl
  · intro i h1 h3
    rw [freshK_len] at h3
    rw [kd_freshK h3, if_neg (by omega)]
    decide
theorem freshK_none {n : Nat} {p : Nat → Bool} (h0 : p 0 = false) (h1 : p 1 = false) : setK p (freshK n) = List.replicate n false := ext_inB (by rw [setK_len, freshK_len, List.length_replicate]) fun i hi => by
  rw [setK_len] at hi
  rw [inB_setK hi, inB_zeros]
  rw [freshK_len] at hi
  rw [kd_freshK hi]
  split <;> assumption
end Go.Proofs.YtjgnnofpilmgoaaDoor
