/- PLAIN FACTS: what the bytes of a list of extents tell. No walk. -/
import Derived.Test.YtlfpepkgnobjnaaExOpen
import Derived.Test.YtlfpepkgnobjnaaExE
import Derived.Test.YtlfpepkgnobjnaaVarL
namespace Go.Inc
/-- Numbers, two by two. -/
def pairsX : List Nat → List Xt
  | a :: b :: r => ((a : Int), (b : Int)) :: pairsX r
  | _ => []
theorem pairsX_len : ∀ vs : List Nat, vs.length % 2 = 0 → (pairsX vs).length * 2 = vs.length
  | [], _ => rfl
  | [a], h => by simp at h
  | a :: b :: r, h => by
    have ih := pairsX_len r (by simp at h; omega)
    show ((_ :: pairsX r : List Xt)).length * 2 = _
    simp only [List.length_cons]
    omega
theorem pairsX_snoc : ∀ (vs : List Nat) (k : Nat), k * 2 + 1 < vs.length → pairsX (vs.take ((k + 1) * 2)) = pairsX (vs.take (k * 2)) ++ [(((vs.getD (k * 2) 0 : Nat) : Int), ((vs.getD (k * 2 + 1) 0 : Nat) : Int))]
  | [], k, h => by simp at h
  | [a], k, h => by simp at h
  | a :: b :: r, 0, _ => by simp [pairsX]
  | a :: b :: r, k + 1, h => by
    have ih := pairsX_snoc r k (by simp at h; omega)
    rw [show (k + 1 + 1) * 2 = (k + 1) * 2 + 1 + 1 from by omega, show (k + 1) * 2 = k * 2 + 1 + 1 from by omega]
    simp only [List.take_succ_cons, pairsX, List.cons_append, List.cons.injEq, true_and, List.getD_cons_succ]
    rw [show k * 2 + 1 + 1 = (k + 1) * 2 from by omega]
    exact ih
theorem pairsX_mem : ∀ (vs : List Nat) (x : Xt), x ∈ pairsX vs → ∃ a ∈ vs, ∃ b ∈ vs, x = ((a : Int), (b : Int))
  | [], x, h => by simp [pairsX] at h
  | [a], x, h => by simp [pairsX] at h
  | a :: b :: r, x, h => by
    simp only [pairsX, List.mem_cons] at h
    rcases h with rfl | h
    · exact ⟨a, by simp, b, by simp, rfl⟩
    · obtain ⟨c, hc, d, hd, e⟩ := pairsX_mem r x h
      exact ⟨c, by simp [hc], d, by simp [hd], e⟩
theorem pairsX_flat : ∀ xs : List Xt, (∀ x ∈ xs, 0 ≤ x.1 ∧ 0 ≤ x.2) → pairsX ((xs.flatMap fun x => [x.1, x.2]).map Int.toNat) = xs
  | [], _ => rfl
  | x :: r, h => by
    have h0 := h x (by simp)
    have ih := pairsX_flat r fun y hy => h y (by simp [hy])
    simp only [List.flatMap_cons, List.cons_append, List.nil_append, List.map_cons, pairsX, ih]
    congr 1
    rw [Int.toNat_of_nonneg h0.1, Int.toNat_of_nonneg h0.2]
theorem cast_toNat : ∀ zs : List Int, (∀ z ∈ zs, 0 ≤ z) → zs = (zs.map Int.toNat).map fun n : Nat => (n : Int)
  | [], _ => rfl
  | z :: r, h => by
    simp only [List.map_cons]
    rw [← cast_toNat r fun y hy => h y (by simp [hy]), Int.toNat_of_nonneg (h z (by simp))]
end Go.Inc
namespace Go.Proofs.Ytlfpepkgnobjnaa
open Go.RowKit Go.Inc

/-- What is wrong with bytes, as a list of extents; its extents; the rest. -/
def decE (bs : List Nat) : Int := if listErr bs ≠ 0 then (listErr bs : Int) else if (listVals bs).length % 2 = 1 then 3 else chkX (pairsX (listVals bs))
def decX (bs : List Nat) : List Xt := if decE bs = 0 then pairsX (listVals bs) else []
def decR (bs : List Nat) : List Nat := if decE bs = 0 then listRest bs else []
theorem decE_list {bs : List Nat} (h : listErr bs ≠ 0) : decE bs = (listErr bs : Int) := if_pos h
theorem decE_odd {bs : List Nat} (h : listErr bs = 0) (h1 : (listVals bs).length % 2 = 1) : decE bs = 3 := by
  unfold decE
  rw [if_neg (by rw [h]; decide), if_pos h1]
theorem decE_chk {bs : List Nat} (h : listErr bs = 0) (h1 : (listVals bs).length % 2 = 0) : decE bs = chkX (pairsX (listVals bs)) := by
  unfold decE
  rw [if_neg (by rw [h]; decide), if_neg (by omega)]
theorem decX_bad {bs : List Nat} (h : decE bs ≠ 0) : decX bs = [] := if_neg h
theorem decX_good {bs : List Nat} (h : decE bs = 0) : decX bs = pairsX (listVals bs) := if_pos h
theorem decR_good {bs : List Nat} (h : decE bs = 0) : decR bs = listRest bs := if_pos h
/-- A list's numbers: how great, how many. -/
theorem manyVals_bnd : ∀ (n : Nat) (bs : List Nat), ∀ v ∈ manyVals n bs, v ≤ 9223372036854775807
  | 0, _, v, h => by simp [manyVals] at h
  | n + 1, bs, v, h => by
    simp only [manyVals, List.mem_cons] at h
    rcases h with rfl | h
    · exact Var.val_le _ _
    · exact manyVals_bnd n _ v h
theorem listVals_bnd {bs : List Nat} : ∀ v ∈ listVals bs, v ≤ 9223372036854775807 := by
  intro v h
  unfold listVals at h
  split at h
  · exact manyVals_bnd _ _ v h
  · cases h
theorem many_len : ∀ (n : Nat) (bs : List Nat), manyErr n bs = 0 → n ≤ bs.length
  | 0, _, _ => Nat.zero_le _
  | n + 1, bs, h => by
    by_cases he : Var.err 9223372036854775807 bs = 0
    · rw [many_good he] at h
      have ih := many_len n _ h
      have hp := Var.pos_good he
      have hl := Var.pos_le 9223372036854775807 bs
      unfold bodyOf at ih
      rw [List.length_drop] at ih
      omega
    · rw [many_bad he] at h
      exact absurd h he
theorem manyVals_cnt (n : Nat) (bs : List Nat) : (manyVals n bs).length = n := by
  induction n generalizing bs with
  | zero => rfl
  | succ n ih => simp [manyVals, ih]
theorem listVals_len {bs : List Nat} : (listVals bs).length ≤ bs.length := by
  unfold listVals
  split
  · rename_i h
    rw [manyVals_cnt]
    unfold listErr at h
    split at h
    · rename_i h1; exact absurd h h1
    · split at h
      · cases h
      · exact Nat.le_trans (many_len _ _ h) (body_len bs)
  · exact Nat.zero_le _
theorem pairs_fits {bs : List Nat} : ∀ x ∈ pairsX (listVals bs), fitsX x := by
  intro x hx
  obtain ⟨a, ha, b, hb, rfl⟩ := pairsX_mem _ x hx
  have h1 := listVals_bnd a ha
  have h2 := listVals_bnd b hb
  unfold fitsX
  simp only
  omega
/-- A list's bytes. -/
def encX (xs : List Xt) : List Nat := Var.put (flatX xs).length ++ puts (flatX xs)
theorem bytes_puts (zs : List Int) : Bytes (puts zs) := by
  intro x hx
  unfold puts at hx
  obtain ⟨l, hl, hx⟩ := List.mem_flatten.1 hx
  obtain ⟨z, _, rfl⟩ := List.mem_map.1 hl
  exact Var.put_bytes _ x hx
theorem encX_bytes (xs : List Xt) : Bytes (encX xs) := Bytes.append (Var.put_bytes _) (bytes_puts _)
theorem flat_pos {xs : List Xt} (h : ∀ x ∈ xs, okX x = true) : ∀ z ∈ flatX xs, 0 ≤ z ∧ z ≤ 2047 := by
  intro z hz
  obtain ⟨x, hx, h1⟩ := flatX_mem hz
  have := okX_iff.1 (h x hx)
  rcases h1 with rfl | rfl <;> omega
theorem encX_len {xs : List Xt} (h : ∀ x ∈ xs, okX x = true) (hl : xs.length ≤ 65536) : (encX xs).length ≤ 10 + 20 * xs.length := by
  have h1 := puts_len (flatX xs) fun z hz => by have := flat_pos h z hz; omega
  have h2 := Var.put_ten (n := (flatX xs).length) (by rw [flatX_len]; omega)
  unfold encX
  rw [List.length_append]
  rw [flatX_len] at h1 h2 ⊢
  omega
theorem many_back (vs rest : List Nat) (h : ∀ x ∈ vs, x ≤ 9223372036854775807) :
    manyErr vs.length ((vs.map Var.put).flatten ++ rest) = 0 ∧ manyVals vs.length ((vs.map Var.put).flatten ++ rest) = vs ∧ manyRest vs.length ((vs.map Var.put).flatten ++ rest) = rest := by
  induction vs with
  | nil => simp [manyErr, manyVals, manyRest]
  | cons x vs ih =>
    have hx := h x (by simp)
    have hf : x < 18446744073709551616 := by omega
    obtain ⟨i1, i2, i3⟩ := ih fun y hy => h y (List.mem_cons_of_mem _ hy)
    have e0 : ((x :: vs).map Var.put).flatten ++ rest = Var.put x ++ ((vs.map Var.put).flatten ++ rest) := by simp
    have e1 : Var.val 9223372036854775807 (Var.put x ++ ((vs.map Var.put).flatten ++ rest)) = x := Var.val_put hx hf _
    have e2 : Var.err 9223372036854775807 (Var.put x ++ ((vs.map Var.put).flatten ++ rest)) = 0 := Var.err_put hx hf _
    have e3 : bodyOf (Var.put x ++ ((vs.map Var.put).flatten ++ rest)) = (vs.map Var.put).flatten ++ rest := by
      unfold bodyOf
      rw [Var.pos_put hx hf]
      exact List.drop_left
    rw [e0, List.length_cons, many_good e2, manyVals, manyRest, e1, e3]
    exact ⟨i1, by rw [i2], i3⟩
/-- What is got of a list that was put: any list of up to 65536 numbers. -/
theorem list_back (zs : List Int) (rest : List Nat) (hz : ∀ z ∈ zs, 0 ≤ z ∧ z ≤ 9223372036854775807) (hl : zs.length ≤ 65536) :
    listErr (Var.put zs.length ++ puts zs ++ rest) = 0 ∧ listVals (Var.put zs.length ++ puts zs ++ rest) = zs.map Int.toNat ∧ listRest (Var.put zs.length ++ puts zs ++ rest) = rest := by
  have e0 : Var.put zs.length ++ puts zs ++ rest = Var.put zs.length ++ ((zs.map Int.toNat).map Var.put).flatten ++ rest := by
    unfold puts
    rw [List.map_map]; rfl
  have hx : zs.length ≤ 9223372036854775807 := by omega
  have hf : zs.length < 18446744073709551616 := by omega
  have hm := many_back (zs.map Int.toNat) rest (by
    intro x h
    obtain ⟨z, hz', rfl⟩ := List.mem_map.1 h
    have := hz z hz'
    omega)
  rw [List.length_map] at hm
  rw [e0, List.append_assoc]
  generalize ((zs.map Int.toNat).map Var.put).flatten ++ rest = tl at *
  have e1 : Var.val 9223372036854775807 (Var.put zs.length ++ tl) = zs.length := Var.val_put hx hf _
  have e2 : Var.err 9223372036854775807 (Var.put zs.length ++ tl) = 0 := Var.err_put hx hf _
  have e3 : bodyOf (Var.put zs.length ++ tl) = tl := by
    unfold bodyOf
    rw [Var.pos_put hx hf]
    exact List.drop_left
  have h0 : listErr (Var.put zs.length ++ tl) = 0 := by
    unfold listErr
    rw [e2, e1, e3, if_neg (by simp), if_neg (by omega)]
    exact hm.1
  refine ⟨h0, ?_, ?_⟩
  · unfold listVals
    rw [if_pos h0, e1, e3]
    exact hm.2.1
  · unfold listRest
    rw [if_pos h0, e1, e3]
    exact hm.2.2
/-- What is told of a right list's bytes. -/
theorem enc_dec (xs : List Xt) (bs : List Nat) (h : chkX xs = 0) (hl : xs.length ≤ 30000) : decE (encX xs ++ bs) = 0 ∧ decX (encX xs ++ bs) = xs ∧ decR (encX xs ++ bs) = bs := by
  have hok := badX_false.1 (chkX_zero h).1
  have hfp := flat_pos hok
  obtain ⟨h1, h2, h3⟩ := list_back (flatX xs) bs (fun z hz => by have := hfp z hz; omega) (by rw [flatX_len]; omega)
  have hp : pairsX (listVals (encX xs ++ bs)) = xs := by
    unfold encX
    rw [h2]
    exact pairsX_flat xs fun x hx => by have := okX_iff.1 (hok x hx); omega
  have he : decE (encX xs ++ bs) = 0 := by
    rw [decE_chk (by unfold encX; exact h1) (by unfold encX; rw [h2, List.length_map, flatX_len]; omega), hp]
    exact h
  refine ⟨he, by rw [decX_good he, hp], ?_⟩
  rw [decR_good he]
  unfold encX
  exact h3
end Go.Proofs.Ytlfpepkgnobjnaa
