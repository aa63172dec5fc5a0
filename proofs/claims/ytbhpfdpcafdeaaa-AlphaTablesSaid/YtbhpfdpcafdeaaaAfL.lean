/- PLAIN FACTS OF LISTS: one that is put is got, one that is got was put; a table's bytes. -/
import Derived.Test.YtbhpfdpcafdeaaaAfMb
import Derived.Test.YtbhpfdpcafdeaaaVarL
import Derived.Test.YtbhpfdpcafdeaaaVarF
namespace Go.Inc
open Go.RowKit
/-- A number that is read was put. -/
theorem Var.get_canonA (g : Nat) : ∀ (bs : List Nat) (i n v p : Nat), Bytes bs → Var.get g i n bs = (v, p, 0) → ∃ m, v = n + m * 128 ^ i ∧ p = i + (Var.put m).length ∧ bs.take (Var.put m).length = Var.put m ∧ (0 < i → 0 < m)
  | [], i, n, v, p, _, h => by rw [Var.get_nil] at h; simp at h
  | c :: bs, i, n, v, p, hb, h => by
    have hc : c < 256 := hb c (by simp)
    by_cases hbad : i = 10 ∨ (0 < i ∧ c = 0) ∨ (g - n) / 128 ^ i < c % 128
    · rw [Var.get_bad hbad] at h; simp at h
    · by_cases hl : c < 128
      · rw [Var.get_last hbad hl] at h
        simp only [Prod.mk.injEq] at h
        obtain ⟨h1, h2, -⟩ := h
        refine ⟨c, by rw [← h1, Nat.mod_eq_of_lt hl], by rw [Var.put_low hl]; simpa using h2.symm, by rw [Var.put_low hl]; rfl, fun h0 => ?_⟩
        apply Nat.pos_of_ne_zero
        intro e
        exact hbad (.inr (.inl ⟨h0, e⟩))
      · rw [Var.get_next hbad hl] at h
        obtain ⟨m, h1, h2, h3, h4⟩ := Var.get_canonA g bs (i + 1) _ v p (fun x hx => hb x (List.mem_cons_of_mem _ hx)) h
        have hm := h4 (by omega)
        have e1 : Var.put (c % 128 + 128 * m) = c :: Var.put m := by
          rw [Var.put_more (by omega)]
          congr 1
          · omega
          · congr 1; omega
        refine ⟨c % 128 + 128 * m, ?_, ?_, ?_, fun _ => by omega⟩
        · rw [h1, Nat.pow_succ, Nat.add_mul]
          generalize 128 ^ i = T
          rw [Nat.mul_comm T 128, ← Nat.mul_assoc, Nat.mul_comm m 128]
          omega
        · rw [e1, h2, List.length_cons]; omega
        · rw [e1, List.length_cons, List.take_succ_cons, h3]
theorem Var.take_valA {g : Nat} {bs : List Nat} (hb : Bytes bs) (h : Var.err g bs = 0) : bs.take (Var.pos g bs) = Var.put (Var.val g bs) := by
  obtain ⟨m, h1, h2, h3, -⟩ := Var.get_canonA g bs 0 0 (Var.val g bs) (Var.pos g bs) hb (by
    unfold Var.err at h
    exact Prod.ext rfl (Prod.ext rfl h))
  have e : Var.val g bs = m := by simpa using h1
  rw [e, h2, Nat.zero_add, h3]
end Go.Inc
namespace Go.Proofs.Ytbhpfdpcafdeaaa
open Go.RowKit Go.Inc

theorem body_splitA {bs : List Nat} (hb : Bytes bs) (h : Var.err 9223372036854775807 bs = 0) : Var.put (Var.val 9223372036854775807 bs) ++ bodyOf bs = bs := by
  rw [← Var.take_valA hb h]
  exact List.take_append_drop _ _
theorem body_bytesA {bs : List Nat} (hb : Bytes bs) : Bytes (bodyOf bs) := hb.drop _
theorem manyVals_lenA (n : Nat) (bs : List Nat) : (manyVals n bs).length = n := by
  induction n generalizing bs with
  | zero => rfl
  | succ n ih => rw [manyVals, List.length_cons, ih]
theorem many_puts (vs rest : List Nat) (h : ∀ x ∈ vs, x ≤ 9223372036854775807) :
    manyErr vs.length ((vs.map Var.put).flatten ++ rest) = 0 ∧ manyVals vs.length ((vs.map Var.put).flatten ++ rest) = vs ∧ manyRest vs.length ((vs.map Var.put).flatten ++ rest) = rest := by
  induction vs with
  | nil => simp [manyErr, manyVals, manyRest]
  | cons x vs ih =>
    have hx := h x (by simp)
    have hf : x < 18446744073709551616 := by omega
    obtain ⟨i1, i2, i3⟩ := ih fun y hy => h y (List.mem_cons_of_mem _ hy)
    have e0 : ((x :: vs).map Var.put).flatten ++ rest = Var.put x ++ ((vs.map Var.put).flatten ++ rest) := by simp
    have e1 : Var.val 9223372036854775807 (Var.put x ++ ((vs.map Var.put).flatten ++ rest)) = x := Var.val_put hx hf _
    have e2 : Var.err 9223372036854775807 (Var.put x ++ ((vs.map Var.put).flatten ++ rest)) = 0 := Var.err_put hx hf _
    have e3 : bodyOf (Var.put x ++ ((vs.map Var.put).flatten ++ rest)) = (vs.map Var.put).flatten ++ rest := by
      unfold bodyOf
      rw [Var.pos_put hx hf]
      exact List.drop_left
    rw [e0, List.length_cons, many_good e2, manyVals, manyRest, e1, e3]
    exact ⟨i1, by rw [i2], i3⟩
theorem many_canonA : ∀ (n : Nat) (bs : List Nat), Bytes bs → manyErr n bs = 0 → ((manyVals n bs).map Var.put).flatten ++ manyRest n bs = bs
  | 0, bs, _, _ => rfl
  | n + 1, bs, hb, h => by
    by_cases he : Var.err 9223372036854775807 bs = 0
    · rw [many_good he] at h
      have h1 := many_canonA n (bodyOf bs) (body_bytesA hb) h
      rw [manyVals, manyRest, List.map_cons, List.flatten_cons, List.append_assoc, h1]
      exact body_splitA hb he
    · rw [many_bad he] at h; exact absurd h he
theorem listOf_nZ (l : List Nat) : listOf (nZ l) = Var.put l.length ++ (l.map Var.put).flatten := by
  have h : anyNeg (nZ l) = false := by
    unfold anyNeg nZ
    rw [List.any_eq_false]
    intro z hz
    obtain ⟨x, _, rfl⟩ := List.mem_map.1 hz
    simp
  unfold listOf
  rw [h, nZ_len]
  show _ ++ puts (nZ l) = _
  unfold puts nZ
  rw [List.map_map]
  rfl
/-- A list that was put is got, and what is behind it. -/
theorem listOf_got (l rest : List Nat) (hl : l.length ≤ 65536) (h : ∀ x ∈ l, x ≤ 9223372036854775807) :
    listErr (listOf (nZ l) ++ rest) = 0 ∧ listVals (listOf (nZ l) ++ rest) = l ∧ listRest (listOf (nZ l) ++ rest) = rest := by
  obtain ⟨h1, h2, h3⟩ := many_puts l rest h
  have e0 : listOf (nZ l) ++ rest = Var.put l.length ++ ((l.map Var.put).flatten ++ rest) := by rw [listOf_nZ, List.append_assoc]
  have e1 : Var.val 9223372036854775807 (Var.put l.length ++ ((l.map Var.put).flatten ++ rest)) = l.length := Var.val_put (by omega) (by omega) _
  have e2 : Var.err 9223372036854775807 (Var.put l.length ++ ((l.map Var.put).flatten ++ rest)) = 0 := Var.err_put (by omega) (by omega) _
  have e3 : bodyOf (Var.put l.length ++ ((l.map Var.put).flatten ++ rest)) = (l.map Var.put).flatten ++ rest := by
    unfold bodyOf
    rw [Var.pos_put (by omega) (by omega)]
    exact List.drop_left
  have he : listErr (listOf (nZ l) ++ rest) = 0 := by
    unfold listErr
    rw [e0, e2, e1, e3, if_neg (by decide), if_neg (by omega), h1]
  refine ⟨he, ?_, ?_⟩
  · unfold listVals; rw [if_pos he, e0, e1, e3, h2]
  · unfold listRest; rw [if_pos he, e0, e1, e3, h3]
/-- A list that is got was put. -/
theorem list_canonA {bs : List Nat} (hb : Bytes bs) (h : listErr bs = 0) : listOf (nZ (listVals bs)) ++ listRest bs = bs := by
  have h0 := h
  unfold listErr at h0
  by_cases he : Var.err 9223372036854775807 bs = 0
  · rw [if_neg (by rw [he]; decide)] at h0
    split at h0
    · cases h0
    · have h1 := many_canonA _ _ (body_bytesA hb) h0
      unfold listVals listRest
      rw [if_pos h, if_pos h, listOf_nZ, manyVals_lenA, List.append_assoc, h1]
      exact body_splitA hb he
  · rw [if_pos he] at h0; exact absurd h0 he
theorem list_lenA {bs : List Nat} : (listVals bs).length ≤ 65536 := by
  unfold listVals
  split
  · rename_i h
    unfold listErr at h
    rw [manyVals_lenA]
    split at h
    · rename_i h1; exact absurd h h1
    · split at h
      · cases h
      · omega
  · exact Nat.zero_le _
theorem many_bytesA : ∀ (n : Nat) (bs : List Nat), Bytes bs → Bytes (manyRest n bs)
  | 0, _, h => h
  | n + 1, bs, h => many_bytesA n (bodyOf bs) (body_bytesA h)
theorem list_bytesA {bs : List Nat} (hb : Bytes bs) : Bytes (listRest bs) := by
  unfold listRest
  split
  · exact many_bytesA _ _ (body_bytesA hb)
  · exact Bytes.nil
theorem list_restA {bs : List Nat} (hb : Bytes bs) : (listRest bs).length ≤ bs.length := by
  by_cases h : listErr bs = 0
  · have := congrArg List.length (list_canonA hb h)
    rw [List.length_append] at this
    omega
  · unfold listRest; rw [if_neg h]; exact Nat.zero_le _
theorem many_leA : ∀ (n : Nat) (bs : List Nat), ∀ x ∈ manyVals n bs, x ≤ 9223372036854775807
  | 0, _, x, h => by cases h
  | n + 1, bs, x, h => by
    rcases List.mem_cons.1 h with rfl | h
    · exact Var.val_le _ _
    · exact many_leA n _ x h
theorem list_leA (bs : List Nat) : ∀ x ∈ listVals bs, x ≤ 9223372036854775807 := by
  unfold listVals
  split
  · exact many_leA _ _
  · intro x h; cases h
/-- The i-th symbol and count of a table are right. -/
def paI (ss cs : List Nat) (i : Nat) : Bool := decide (ss.getD i 0 < 258 ∧ (i = 0 ∨ ss.getD (i - 1) 0 < ss.getD i 0) ∧ 0 < cs.getD i 0 ∧ (cs.take i).sum + cs.getD i 0 ≤ 65536)
/-- The lists are a table's. -/
def paOk (ss cs : List Nat) : Prop := ss.length = cs.length ∧ ∀ i, i < ss.length → paI ss cs i = true
instance (ss cs : List Nat) : Decidable (paOk ss cs) := inferInstanceAs (Decidable (_ ∧ _))
def paE (bs : List Nat) : Nat := if listErr bs ≠ 0 then listErr bs else if listErr (listRest bs) ≠ 0 then listErr (listRest bs) else if paOk (listVals bs) (listVals (listRest bs)) then 0 else 3
def paR (bs : List Nat) : List Nat := listRest (listRest bs)
theorem paE_zero {bs : List Nat} (h : paE bs = 0) : listErr bs = 0 ∧ listErr (listRest bs) = 0 ∧ paOk (listVals bs) (listVals (listRest bs)) := by
  unfold paE at h
  split at h
  · rename_i h1; exact absurd h h1
  · rename_i h1
    split at h
    · rename_i h2; exact absurd h h2
    · rename_i h2
      split at h
      · rename_i h3; exact ⟨by simpa using h1, by simpa using h2, h3⟩
      · cases h
/-- The bytes of the table that was read. -/
theorem paR_canon {bs : List Nat} (hb : Bytes bs) (h : paE bs = 0) : (listOf (nZ (listVals bs)) ++ listOf (nZ (listVals (listRest bs)))) ++ paR bs = bs := by
  obtain ⟨h1, h2, -⟩ := paE_zero h
  have e2 := list_canonA (list_bytesA hb) h2
  unfold paR
  rw [List.append_assoc, e2]
  exact list_canonA hb h1
theorem sum_take_le (l : List Nat) (i : Nat) (h : i < l.length) : (l.take i).sum + l.getD i 0 = (l.take (i + 1)).sum := by
  rw [List.take_succ_eq_append_getElem h, List.sum_append, List.getD_eq_getElem?_getD, List.getElem?_eq_getElem h]
  simp
/-- A text's table. -/
theorem symT_lt (zs : List Int) : ∀ n, ∀ x ∈ symT zs n, x < n ∧ 0 < zs.count (x : Int)
  | 0, x, h => by cases h
  | n + 1, x, h => by
    by_cases h0 : 0 < zs.count (n : Int)
    · rw [symT_in h0] at h
      rcases List.mem_append.1 h with h1 | h1
      · have := symT_lt zs n x h1; exact ⟨by omega, this.2⟩
      · obtain rfl : x = n := by simpa using h1
        exact ⟨by omega, h0⟩
    · rw [symT_out h0] at h
      have := symT_lt zs n x h; exact ⟨by omega, this.2⟩
theorem symT_mem (zs : List Int) (x : Nat) : ∀ n, x < n → 0 < zs.count (x : Int) → x ∈ symT zs n
  | 0, h, _ => by omega
  | n + 1, h, hc => by
    by_cases h0 : 0 < zs.count (n : Int)
    · rw [symT_in h0, List.mem_append]
      by_cases e : x = n
      · exact .inr (by simp [e])
      · exact .inl (symT_mem zs x n (by omega) hc)
    · rw [symT_out h0]
      by_cases e : x = n
      · subst e; exact absurd hc h0
      · exact symT_mem zs x n (by omega) hc
theorem getD_snoc {l : List Nat} {x i : Nat} (h : i < l.length) : (l ++ [x]).getD i 0 = l.getD i 0 := by
  rw [List.getD_eq_getElem?_getD, List.getElem?_append_left h, List.getD_eq_getElem?_getD]
theorem getD_last {l : List Nat} {x : Nat} : (l ++ [x]).getD l.length 0 = x := by
  rw [List.getD_eq_getElem?_getD, List.getElem?_append_right (Nat.le_refl _)]; simp
theorem symT_rise (zs : List Int) : ∀ n i, 0 < i → i < (symT zs n).length → (symT zs n).getD (i - 1) 0 < (symT zs n).getD i 0
  | 0, i, _, h => by simp [symT] at h
  | n + 1, i, h1, h2 => by
    by_cases h0 : 0 < zs.count (n : Int)
    · rw [symT_in h0] at h2 ⊢
      rw [List.length_append] at h2
      by_cases e : i < (symT zs n).length
      · rw [getD_snoc e, getD_snoc (by omega)]; exact symT_rise zs n i h1 e
      · obtain rfl : i = (symT zs n).length := by simp at h2; omega
        rw [getD_last, getD_snoc (by omega)]
        have hm : (symT zs n).getD ((symT zs n).length - 1) 0 ∈ symT zs n := by
          rw [List.getD_eq_getElem?_getD, List.getElem?_eq_getElem (by omega)]; exact List.getElem_mem _
        exact (symT_lt zs n _ hm).1
    · rw [symT_out h0] at h2 ⊢
      exact symT_rise zs n i h1 h2
theorem getD_mem' {l : List Nat} {i : Nat} (h : i < l.length) : l.getD i 0 ∈ l := by
  rw [List.getD_eq_getElem?_getD, List.getElem?_eq_getElem h]; exact List.getElem_mem _
theorem cntT_get (zs : List Int) {n i : Nat} (h : i < (symT zs n).length) : (cntT zs n).getD i 0 = zs.count (((symT zs n).getD i 0 : Nat) : Int) := by
  unfold cntT
  rw [List.getD_eq_getElem?_getD, List.getElem?_map, List.getD_eq_getElem?_getD, List.getElem?_eq_getElem h]
  rfl
/-- How many symbols are below n. -/
theorem cntT_sum (zs : List Int) : ∀ n, (cntT zs n).sum = zs.countP fun z => decide (0 ≤ z ∧ z < (n : Int))
  | 0 => by
    show 0 = _
    symm
    rw [List.countP_eq_zero]
    intro z _
    simp
  | n + 1 => by
    have h : zs.countP (fun z => decide (0 ≤ z ∧ z < ((n + 1 : Nat) : Int))) = zs.countP (fun z => decide (0 ≤ z ∧ z < (n : Int))) + zs.count (n : Int) := by
      induction zs with
      | nil => rfl
      | cons z zs ih =>
        rw [List.countP_cons, List.countP_cons, List.count_cons, ih]
        by_cases e : z = (n : Int)
        · subst e
          rw [if_pos (by simp; omega), if_neg (by simp), if_pos (by simp)]
          omega
        · by_cases e2 : 0 ≤ z ∧ z < (n : Int)
          · rw [if_pos (by simp; omega), if_pos (by simp; omega), if_neg (by simpa using e)]; omega
          · rw [if_neg (by simp; omega), if_neg (by simp; omega), if_neg (by simpa using e)]; omega
    rw [h, ← cntT_sum zs n]
    by_cases h0 : 0 < zs.count (n : Int)
    · rw [cntT_in h0, List.sum_append]; simp
    · rw [cntT_out h0]; omega
theorem cntT_all {zs : List Int} (h : ∀ z ∈ zs, 0 ≤ z ∧ z < 258) : (cntT zs 258).sum = zs.length := by
  rw [cntT_sum, List.countP_eq_length]
  intro z hz
  have := h z hz
  simp
  omega
theorem paOk_text {zs : List Int} (h : ∀ z ∈ zs, 0 ≤ z ∧ z < 258) (hl : zs.length ≤ 65536) : paOk (symT zs 258) (cntT zs 258) := by
  refine ⟨(cntT_len zs 258).symm, fun i hi => ?_⟩
  have hm := symT_lt zs 258 _ (getD_mem' hi)
  unfold paI
  rw [decide_eq_true_iff]
  refine ⟨hm.1, ?_, ?_, ?_⟩
  · by_cases h0 : i = 0
    · exact .inl h0
    · exact .inr (symT_rise zs 258 i (by omega) hi)
  · rw [cntT_get zs hi]; exact hm.2
  · rw [sum_take_le _ _ (by rw [cntT_len]; exact hi)]
    have h1 : ((cntT zs 258).take (i + 1)).sum ≤ (cntT zs 258).sum := by
      have h2 := congrArg List.sum (List.take_append_drop (i + 1) (cntT zs 258))
      rw [List.sum_append] at h2
      omega
    rw [cntT_all h] at h1
    omega
end Go.Proofs.Ytbhpfdpcafdeaaa
