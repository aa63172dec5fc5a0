/- PLAIN FACTS: what a node's bytes tell, there and back. No walk. -/
import Derived.Test.YtokeihpmagcneaaNdD
namespace Go.Inc
open Go.RowKit
/-- A number that is read was put. -/
theorem Var.get_canon (g : Nat) : ∀ (bs : List Nat) (i n v p : Nat), Bytes bs → Var.get g i n bs = (v, p, 0) → ∃ m, v = n + m * 128 ^ i ∧ p = i + (Var.put m).length ∧ bs.take (Var.put m).length = Var.put m ∧ (0 < i → 0 < m)
  | [], i, n, v, p, _, h => by rw [Var.get_nil] at h; simp at h
  | c :: bs, i, n, v, p, hb, h => by
    have hc : c < 256 := hb c (by simp)
    by_cases hbad : i = 10 ∨ (0 < i ∧ c = 0) ∨ (g - n) / 128 ^ i < c % 128
    · rw [Var.get_bad hbad] at h; simp at h
    · by_cases hl : c < 128
      · rw [Var.get_last hbad hl] at h
        simp only [Prod.mk.injEq] at h
        obtain ⟨h1, h2, -⟩ := h
        refine ⟨c, by rw [← h1, Nat.mod_eq_of_lt hl], by rw [Var.put_low hl]; simpa using h2.symm, by rw [Var.put_low hl]; rfl, fun h0 => ?_⟩
        apply Nat.pos_of_ne_zero
        intro e
        exact hbad (.inr (.inl ⟨h0, e⟩))
      · rw [Var.get_next hbad hl] at h
        obtain ⟨m, h1, h2, h3, h4⟩ := Var.get_canon g bs (i + 1) _ v p (fun x hx => hb x (List.mem_cons_of_mem _ hx)) h
        have hm := h4 (by omega)
        have e1 : Var.put (c % 128 + 128 * m) = c :: Var.put m := by
          rw [Var.put_more (by omega)]
          congr 1
          · omega
          · congr 1; omega
        refine ⟨c % 128 + 128 * m, ?_, ?_, ?_, fun _ => by omega⟩
        · rw [h1, Nat.pow_succ, Nat.add_mul]
          generalize 128 ^ i = T
          rw [Nat.mul_comm T 128, ← Nat.mul_assoc, Nat.mul_comm m 128]
          omega
        · rw [e1, h2, List.length_cons]; omega
        · rw [e1, List.length_cons, List.take_succ_cons, h3]
theorem Var.take_val {g : Nat} {bs : List Nat} (hb : Bytes bs) (h : Var.err g bs = 0) : bs.take (Var.pos g bs) = Var.put (Var.val g bs) := by
  obtain ⟨m, h1, h2, h3, -⟩ := Var.get_canon g bs 0 0 (Var.val g bs) (Var.pos g bs) hb (by
    unfold Var.err at h
    exact Prod.ext rfl (Prod.ext rfl h))
  have e : Var.val g bs = m := by simpa using h1
  rw [e, h2, Nat.zero_add, h3]
/-- A number at a place: the place behind it, what is wrong, the number. -/
def nxN (bs : List Nat) (p : Nat) : Nat := p + Var.pos 65535 (bs.drop p)
def erN (bs : List Nat) (p : Nat) : Nat := Var.err 65535 (bs.drop p)
def vlN (bs : List Nat) (p : Nat) : Nat := Var.val 65535 (bs.drop p)
def okT (bs : List Nat) (p : Nat) : Prop := erN bs p = 0 ∧ erN bs (nxN bs p) = 0 ∧ erN bs (nxN bs (nxN bs p)) = 0
def nx3 (bs : List Nat) (p : Nat) : Nat := nxN bs (nxN bs (nxN bs p))
def etN (bs : List Nat) (p : Nat) : Et := (((vlN bs p : Nat), (vlN bs (nxN bs p) : Nat)), (vlN bs (nxN bs (nxN bs p)) : Nat))
/-- The place behind k entries; the entries. -/
def plN (bs : List Nat) : Nat → Nat
  | 0 => 2
  | k + 1 => nx3 bs (plN bs k)
def esN (bs : List Nat) : Nat → List Et
  | 0 => []
  | k + 1 => esN bs k ++ [etN bs (plN bs k)]
theorem esN_len (bs : List Nat) : ∀ k, (esN bs k).length = k
  | 0 => rfl
  | k + 1 => by
    show (esN bs k ++ [_]).length = _
    rw [List.length_append, esN_len bs k]; rfl
theorem nxN_le {bs : List Nat} {p : Nat} (h : p ≤ bs.length) : nxN bs p ≤ bs.length := by
  have := Var.pos_le 65535 (bs.drop p)
  rw [List.length_drop] at this
  unfold nxN; omega
theorem nxN_lt {bs : List Nat} {p : Nat} (h : erN bs p = 0) : p < nxN bs p := by
  have := Var.pos_good h
  unfold nxN; omega
theorem plN_le {bs : List Nat} (h : 2 ≤ bs.length) : ∀ k, plN bs k ≤ bs.length
  | 0 => h
  | k + 1 => nxN_le (nxN_le (nxN_le (plN_le h k)))
theorem vlN_le (bs : List Nat) (p : Nat) : vlN bs p ≤ 65535 := Var.val_le _ _
def gdN (bs : List Nat) (k : Nat) : Prop := ∀ i, i < k → okT bs (plN bs i)
def lfN (bs : List Nat) : Bool := decide (bs.getD 0 0 = 1)
def ctN (bs : List Nat) : Nat := bs.getD 1 0
/-- Bytes of a right node. -/
def decG (bs : List Nat) : Prop := 2 ≤ bs.length ∧ bs.getD 0 0 ≤ 1 ∧ gdN bs (ctN bs) ∧ plN bs (ctN bs) = bs.length ∧ chkN (lfN bs) (esN bs (ctN bs)) = 0
open Classical in
noncomputable def ndE (bs : List Nat) : Int := if decG bs then 0 else 3
open Classical in
noncomputable def ndL (bs : List Nat) : Bool := if decG bs then lfN bs else false
open Classical in
noncomputable def ndS (bs : List Nat) : List Et := if decG bs then esN bs (ctN bs) else []
theorem ndE_good {bs : List Nat} (h : decG bs) : ndE bs = 0 := if_pos h
theorem ndE_bad {bs : List Nat} (h : ¬ decG bs) : ndE bs = 3 := if_neg h
theorem ndL_good {bs : List Nat} (h : decG bs) : ndL bs = lfN bs := if_pos h
theorem ndL_bad {bs : List Nat} (h : ¬ decG bs) : ndL bs = false := if_neg h
theorem ndS_good {bs : List Nat} (h : decG bs) : ndS bs = esN bs (ctN bs) := if_pos h
theorem ndS_bad {bs : List Nat} (h : ¬ decG bs) : ndS bs = [] := if_neg h
theorem ndE_is (bs : List Nat) : (ndE bs = 0 ∧ decG bs) ∨ (ndE bs = 3 ∧ ¬ decG bs) := by
  by_cases h : decG bs
  · exact .inl ⟨ndE_good h, h⟩
  · exact .inr ⟨ndE_bad h, h⟩
theorem Bytes.dropN {bs : List Nat} (h : Bytes bs) (k : Nat) : Bytes (bs.drop k) := fun x hx => h x (List.mem_of_mem_drop hx)
theorem take_nx {bs : List Nat} {p : Nat} (hb : Bytes bs) (h : erN bs p = 0) : bs.take (nxN bs p) = bs.take p ++ Var.put (vlN bs p) := by
  unfold nxN vlN
  rw [List.take_add, Var.take_val (hb.dropN p) h]
theorem take_pl {bs : List Nat} (hb : Bytes bs) : ∀ k, gdN bs k → bs.take (plN bs k) = bs.take 2 ++ ebytes (esN bs k)
  | 0, _ => by simp [plN, esN, ebytes]
  | k + 1, h => by
    have ih := take_pl hb k fun i hi => h i (by omega)
    obtain ⟨h1, h2, h3⟩ := h k (by omega)
    show bs.take (nxN bs (nxN bs (nxN bs (plN bs k)))) = _ ++ ebytes (esN bs k ++ [_])
    rw [take_nx hb h3, take_nx hb h2, take_nx hb h1, ih, ebytes_snoc]
    simp [ebyte, etN]
/-- Told, and put again. -/
theorem dec_enc {bs : List Nat} (hb : Bytes bs) (h : decG bs) : encN (ndL bs) (ndS bs) = bs := by
  obtain ⟨h1, h2, h3, h4, h5⟩ := h
  have ht := take_pl hb _ h3
  rw [h4, List.take_length] at ht
  rw [ndL_good ⟨h1, h2, h3, h4, h5⟩, ndS_good ⟨h1, h2, h3, h4, h5⟩]
  unfold encN
  rw [esN_len]
  have e2 : bs.take 2 = [bs.getD 0 0, bs.getD 1 0] := by
    match bs, h1 with
    | a :: b :: r, _ => rfl
  rw [e2] at ht
  have e1 : (if lfN bs = true then 1 else 0) = bs.getD 0 0 := by
    unfold lfN
    by_cases hh : bs.getD 0 0 = 1
    · rw [if_pos (decide_eq_true hh)]; exact hh.symm
    · rw [if_neg (by simpa using hh)]; omega
  rw [e1]
  exact ht.symm
/-- Put, and told again. -/
theorem at_put {B : List Nat} {p v : Nat} {rest : List Nat} (h : B.drop p = Var.put v ++ rest) (hv : v ≤ 65535) : erN B p = 0 ∧ vlN B p = v ∧ nxN B p = p + (Var.put v).length ∧ B.drop (nxN B p) = rest := by
  have e : nxN B p = p + (Var.put v).length := by unfold nxN; rw [h, Var.pos_put hv (by omega)]
  refine ⟨by unfold erN; rw [h, Var.err_put hv (by omega)], by unfold vlN; rw [h, Var.val_put hv (by omega)], e, ?_⟩
  rw [e, ← List.drop_drop, h, List.drop_left]
theorem at_entry {B : List Nat} {p : Nat} {e : Et} {rest : List Nat} (h : B.drop p = ebyte e ++ rest) (he : okE e = true) : okT B p ∧ etN B p = e ∧ nx3 B p = p + (ebyte e).length ∧ B.drop (nx3 B p) = rest := by
  have hv := okE_iff.1 he
  unfold ebyte at h
  rw [List.append_assoc, List.append_assoc] at h
  obtain ⟨a1, a2, a3, a4⟩ := at_put h (by omega)
  obtain ⟨b1, b2, b3, b4⟩ := at_put a4 (by omega)
  obtain ⟨c1, c2, c3, c4⟩ := at_put b4 (by omega)
  refine ⟨⟨a1, b1, c1⟩, ?_, ?_, c4⟩
  · unfold etN
    rw [a2, b2, c2, Int.toNat_of_nonneg (by omega), Int.toNat_of_nonneg (by omega), Int.toNat_of_nonneg (by omega)]
  · unfold nx3 ebyte
    rw [c3, b3, a3, List.length_append, List.length_append]; omega
theorem ebytes_drop {es : List Et} {k : Nat} (h : k < es.length) : ebytes (es.drop k) = ebyte (es.getD k et0) ++ ebytes (es.drop (k + 1)) := by
  rw [List.drop_eq_getElem_cons h, List.getD_eq_getElem?_getD, List.getElem?_eq_getElem h]
  rfl
theorem enc_at {lf : Bool} {es : List Et} (hok : ∀ e ∈ es, okE e = true) : ∀ k, k ≤ es.length → gdN (encN lf es) k ∧ esN (encN lf es) k = es.take k ∧ (encN lf es).drop (plN (encN lf es) k) = ebytes (es.drop k) ∧ plN (encN lf es) k = 2 + (ebytes (es.take k)).length
  | 0, _ => by
    refine ⟨fun i hi => absurd hi (by omega), rfl, rfl, rfl⟩
  | k + 1, hk => by
    obtain ⟨i1, i2, i3, i4⟩ := enc_at (lf := lf) hok k (by omega)
    rw [ebytes_drop (by omega)] at i3
    obtain ⟨j1, j2, j3, j4⟩ := at_entry i3 (hok _ (memGetD (by omega)))
    refine ⟨fun i hi => ?_, ?_, j4, ?_⟩
    · by_cases h : i = k
      · rw [h]; exact j1
      · exact i1 i (by omega)
    · show esN (encN lf es) k ++ [etN _ _] = _
      rw [i2, j2, takeSnoc (d := et0) (by omega)]
    · show nx3 _ _ = _
      rw [j3, i4, takeSnoc (d := et0) (by omega), ebytes_snoc, List.length_append]; omega
theorem encN_len (lf : Bool) (es : List Et) : (encN lf es).length = 2 + (ebytes es).length := by
  unfold encN
  rw [List.length_append]; rfl
theorem enc_dec {lf : Bool} {es : List Et} (h : chkN lf es = 0) : decG (encN lf es) ∧ ndE (encN lf es) = 0 ∧ ndL (encN lf es) = lf ∧ ndS (encN lf es) = es := by
  obtain ⟨c1, c2, -, -⟩ := chkN_zero h
  have hok := badN_false.1 c2
  obtain ⟨h1, h2, h3, h4⟩ := enc_at (lf := lf) hok es.length (Nat.le_refl _)
  have e1 : ctN (encN lf es) = es.length := rfl
  have e2 : lfN (encN lf es) = lf := by cases lf <;> rfl
  rw [List.take_length] at h2 h4
  have hG : decG (encN lf es) := ⟨by rw [encN_len]; omega, by cases lf <;> simp [encN], by rw [e1]; exact h1, by rw [e1, h4, encN_len], by rw [e1, e2, h2]; exact h⟩
  exact ⟨hG, ndE_good hG, by rw [ndL_good hG, e2], by rw [ndS_good hG, e1, h2]⟩
theorem encN_bytes {lf : Bool} {es : List Et} (hl : es.length ≤ 16) : Bytes (encN lf es) := by
  intro x hx
  unfold encN at hx
  rw [List.mem_append] at hx
  rcases hx with h | h
  · simp only [List.mem_cons, List.not_mem_nil, or_false] at h
    rcases h with rfl | rfl
    · cases lf <;> decide
    · omega
  · exact ebytes_bytes es x h
theorem encN_le {lf : Bool} {es : List Et} (h : chkN lf es = 0) : (encN lf es).length ≤ 482 := by
  obtain ⟨c1, c2, -, -⟩ := chkN_zero h
  have := ebytes_len (badN_false.1 c2)
  rw [encN_len]; omega
end Go.Inc
