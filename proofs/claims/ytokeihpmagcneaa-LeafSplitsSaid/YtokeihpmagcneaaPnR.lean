/- PLAIN FACTS: what a node's bytes tell, read number by number, whatever the numbers are; it is the same. No walk. -/
import Derived.Test.YtokeihpmagcneaaPnE
import Derived.Test.YtokeihpmagcneaaNdR
namespace Go.Inc
open Go.RowKit
/-- What is wrong with the number in front, the number, what is behind it. -/
def eM (b : List Nat) : Nat := Var.err 9223372036854775807 b
def vM (b : List Nat) : Nat := Var.val 9223372036854775807 b
def tM (b : List Nat) : List Nat := if Var.err 9223372036854775807 b = 0 then b.drop (Var.pos 9223372036854775807 b) else []
theorem vM_le (b : List Nat) : vM b ≤ 9223372036854775807 := Var.val_le _ _
theorem tM_len (b : List Nat) : (tM b).length ≤ b.length := by
  unfold tM
  split
  · rw [List.length_drop]; omega
  · simp
theorem tM_bytes {b : List Nat} (h : Bytes b) : Bytes (tM b) := by
  unfold tM
  split
  · exact h.dropN _
  · intro x hx; simp at hx
theorem tM_good {b : List Nat} (hb : Bytes b) (h : eM b = 0) : b = Var.put (vM b) ++ tM b := by
  have h1 := Var.take_val hb (g := 9223372036854775807) h
  unfold vM tM
  rw [if_pos (show Var.err 9223372036854775807 b = 0 from h), ← h1, List.take_append_drop]
theorem tM_put {b : List Nat} {v : Nat} {rest : List Nat} (h : b = Var.put v ++ rest) (hv : v ≤ 65535) : eM b = 0 ∧ vM b = v ∧ tM b = rest := by
  subst h
  have he : Var.err 9223372036854775807 (Var.put v ++ rest) = 0 := Var.err_put (by omega) (by omega) _
  refine ⟨he, Var.val_put (by omega) (by omega) _, ?_⟩
  unfold tM
  rw [if_pos he, Var.pos_put (by omega) (by omega)]
  exact List.drop_left
/-- What is behind j numbers. -/
def tJ (b : List Nat) : Nat → List Nat
  | 0 => b
  | j + 1 => tM (tJ b j)
theorem tJ_len (b : List Nat) : ∀ j, (tJ b j).length ≤ b.length
  | 0 => Nat.le_refl _
  | j + 1 => Nat.le_trans (tM_len _) (tJ_len b j)
theorem tJ_bytes {b : List Nat} (h : Bytes b) : ∀ j, Bytes (tJ b j)
  | 0 => h
  | j + 1 => tM_bytes (tJ_bytes h j)
def okM (b : List Nat) : Prop := eM (tJ b 0) = 0 ∧ eM (tJ b 1) = 0 ∧ eM (tJ b 2) = 0
def etM (b : List Nat) : Et := (((vM (tJ b 0) : Nat), (vM (tJ b 1) : Nat)), (vM (tJ b 2) : Nat))
def rsM (b : List Nat) : Nat → List Nat
  | 0 => b
  | k + 1 => tJ (rsM b k) 3
def esM (b : List Nat) : Nat → List Et
  | 0 => []
  | k + 1 => esM b k ++ [etM (rsM b k)]
theorem esM_len (b : List Nat) : ∀ k, (esM b k).length = k
  | 0 => rfl
  | k + 1 => by
    show (esM b k ++ [_]).length = _
    rw [List.length_append, esM_len b k]; rfl
theorem rsM_len (b : List Nat) : ∀ k, (rsM b k).length ≤ b.length
  | 0 => Nat.le_refl _
  | k + 1 => Nat.le_trans (tJ_len _ 3) (rsM_len b k)
theorem rsM_bytes {b : List Nat} (h : Bytes b) : ∀ k, Bytes (rsM b k)
  | 0 => h
  | k + 1 => tJ_bytes (rsM_bytes h k) 3
def gdM (b : List Nat) (k : Nat) : Prop := ∀ i, i < k → okM (rsM b i)
theorem etM_fits (b : List Nat) : fitsE (etM b) := by
  have h0 := vM_le (tJ b 0)
  have h1 := vM_le (tJ b 1)
  have h2 := vM_le (tJ b 2)
  unfold fitsE fitsK etM
  simp only
  omega
theorem esM_fits (b : List Nat) : ∀ k, ∀ e ∈ esM b k, fitsE e
  | 0, e, h => by cases h
  | k + 1, e, h => by
    rcases List.mem_append.1 h with h | h
    · exact esM_fits b k e h
    · rw [List.mem_singleton] at h
      subst h
      exact etM_fits _
theorem take_M {b : List Nat} (hb : Bytes b) : ∀ k, gdM b k → b = ebytes (esM b k) ++ rsM b k
  | 0, _ => rfl
  | k + 1, h => by
    have ih := take_M hb k fun i hi => h i (by omega)
    obtain ⟨h1, h2, h3⟩ := h k (by omega)
    have hr := rsM_bytes hb k
    have e1 := tM_good (tJ_bytes hr 0) h1
    have e2 := tM_good (tJ_bytes hr 1) h2
    have e3 := tM_good (tJ_bytes hr 2) h3
    have e4 : rsM b k = Var.put (vM (tJ (rsM b k) 0)) ++ (Var.put (vM (tJ (rsM b k) 1)) ++ (Var.put (vM (tJ (rsM b k) 2)) ++ tJ (rsM b k) 3)) := by
      have f1 : tM (tJ (rsM b k) 0) = tJ (rsM b k) 1 := rfl
      have f2 : tM (tJ (rsM b k) 1) = tJ (rsM b k) 2 := rfl
      have f3 : tM (tJ (rsM b k) 2) = tJ (rsM b k) 3 := rfl
      have f0 : tJ (rsM b k) 0 = rsM b k := rfl
      rw [f3] at e3
      rw [f2] at e2
      rw [f1, f0] at e1
      rw [← e3, ← e2, f0]
      exact e1
    show b = ebytes (esM b k ++ [etM (rsM b k)]) ++ tJ (rsM b k) 3
    rw [ebytes_snoc]
    have e5 : ebyte (etM (rsM b k)) = Var.put (vM (tJ (rsM b k) 0)) ++ Var.put (vM (tJ (rsM b k) 1)) ++ Var.put (vM (tJ (rsM b k) 2)) := by
      unfold ebyte etM
      simp
    rw [e5]
    calc b = ebytes (esM b k) ++ rsM b k := ih
      _ = ebytes (esM b k) ++ (Var.put (vM (tJ (rsM b k) 0)) ++ (Var.put (vM (tJ (rsM b k) 1)) ++ (Var.put (vM (tJ (rsM b k) 2)) ++ tJ (rsM b k) 3))) := by rw [← e4]
      _ = _ := by simp only [List.append_assoc]
theorem at_M {b : List Nat} {e : Et} {rest : List Nat} (h : b = ebyte e ++ rest) (he : okE e = true) : okM b ∧ etM b = e ∧ tJ b 3 = rest := by
  have hv := okE_iff.1 he
  unfold ebyte at h
  rw [List.append_assoc, List.append_assoc] at h
  obtain ⟨a1, a2, a3⟩ := tM_put h (by omega)
  obtain ⟨b1, b2, b3⟩ := tM_put a3 (by omega)
  obtain ⟨c1, c2, c3⟩ := tM_put b3 (by omega)
  refine ⟨⟨a1, b1, c1⟩, ?_, c3⟩
  have g1 : vM (tJ b 0) = e.1.1.toNat := a2
  have g2 : vM (tJ b 1) = e.1.2.toNat := b2
  have g3 : vM (tJ b 2) = e.2.toNat := c2
  unfold etM
  rw [g1, g2, g3, Int.toNat_of_nonneg (by omega), Int.toNat_of_nonneg (by omega), Int.toNat_of_nonneg (by omega)]
theorem enc_M {es : List Et} (hok : ∀ e ∈ es, okE e = true) : ∀ k, k ≤ es.length → gdM (ebytes es) k ∧ esM (ebytes es) k = es.take k ∧ rsM (ebytes es) k = ebytes (es.drop k)
  | 0, _ => ⟨fun i hi => absurd hi (by omega), rfl, rfl⟩
  | k + 1, hk => by
    obtain ⟨i1, i2, i3⟩ := enc_M hok k (by omega)
    rw [ebytes_drop (by omega)] at i3
    obtain ⟨j1, j2, j3⟩ := at_M i3 (hok _ (memGetD (by omega)))
    refine ⟨fun i hi => ?_, ?_, j3⟩
    · by_cases h : i = k
      · rw [h]; exact j1
      · exact i1 i (by omega)
    · show esM (ebytes es) k ++ [etM _] = _
      rw [i2, j2, takeSnoc (d := et0) (by omega)]
/-- Bytes that are read to their end. -/
def decM (bs : List Nat) : Prop := 2 ≤ bs.length ∧ bs.getD 0 0 ≤ 1 ∧ ctN bs ≤ 16 ∧ gdM (bs.drop 2) (ctN bs) ∧ rsM (bs.drop 2) (ctN bs) = []
theorem decG_M {bs : List Nat} (hb : Bytes bs) (h : decG bs) : decM bs ∧ esM (bs.drop 2) (ctN bs) = ndS bs ∧ chkN (lfN bs) (ndS bs) = 0 := by
  have he := dec_enc hb h
  obtain ⟨h1, h2, h3, h4, h5⟩ := h
  have hc : chkN (ndL bs) (ndS bs) = 0 := by rw [ndL_good ⟨h1, h2, h3, h4, h5⟩, ndS_good ⟨h1, h2, h3, h4, h5⟩]; exact h5
  have hL : ndL bs = lfN bs := ndL_good ⟨h1, h2, h3, h4, h5⟩
  obtain ⟨c1, c2, -, -⟩ := chkN_zero hc
  have hd : bs.drop 2 = ebytes (ndS bs) := by
    have h9 : (encN (ndL bs) (ndS bs)).drop 2 = ebytes (ndS bs) := rfl
    rw [he] at h9
    exact h9
  have hct : ctN bs = (ndS bs).length := by
    have : ctN (encN (ndL bs) (ndS bs)) = (ndS bs).length := rfl
    rw [he] at this
    exact this
  obtain ⟨g1, g2, g3⟩ := enc_M (badN_false.1 c2) (ndS bs).length (Nat.le_refl _)
  rw [List.take_length] at g2
  rw [List.drop_length] at g3
  exact ⟨⟨h1, h2, by rw [hct]; exact c1, by rw [hd, hct]; exact g1, by rw [hd, hct]; exact g3⟩, by rw [hd, hct]; exact g2, by rw [← hL]; exact hc⟩
theorem decM_G {bs : List Nat} (hb : Bytes bs) (h : decM bs) (hc : chkN (lfN bs) (esM (bs.drop 2) (ctN bs)) = 0) : decG bs ∧ ndL bs = lfN bs ∧ ndS bs = esM (bs.drop 2) (ctN bs) := by
  obtain ⟨h1, h2, h3, h4, h5⟩ := h
  have ht := take_M (hb.dropN 2) _ h4
  rw [h5, List.append_nil] at ht
  have e0 : encN (lfN bs) (esM (bs.drop 2) (ctN bs)) = bs := by
    unfold encN
    rw [esM_len, ← ht]
    have e2 : bs.take 2 = [bs.getD 0 0, ctN bs] := by
      match bs, h1 with
      | a :: b :: r, _ => rfl
    have e1 : (if lfN bs = true then 1 else 0) = bs.getD 0 0 := by
      unfold lfN
      by_cases hh : bs.getD 0 0 = 1
      · rw [if_pos (decide_eq_true hh)]; exact hh.symm
      · rw [if_neg (by simpa using hh)]; omega
    rw [e1, ← e2, List.take_append_drop]
  obtain ⟨g1, -, g3, g4⟩ := enc_dec hc
  rw [e0] at g1 g3 g4
  exact ⟨g1, g3, g4⟩
/-- What reading answers. -/
def RdAns (E : Nat) (w : World) (bs : List Nat) (e : Ending) (w' : World) : Prop :=
  (∃ v lf es B, e = .returned (.tuple #[v, .bool B]) ∧ NodeN E w.heap.size w' v lf es ∧ (B = true → decM bs ∧ lf = lfN bs ∧ es = esM (bs.drop 2) (ctN bs)) ∧ (B = false → ¬ decM bs)) ∧ Below w.heap.size w w'
theorem RdAns.none {E : Nat} {w w' : World} {bs : List Nat} (hb : Below w.heap.size w w') (hn : ¬ decM bs) : RdAns E w bs (.returned (.tuple #[.agg #[.bool false, .slice none 0 0], .bool false])) w' :=
  ⟨⟨_, false, [], false, rfl, ⟨_, rfl, World.ownsRow_nil _ _ _ _⟩, fun h => (by cases h), fun _ => hn⟩, hb⟩
end Go.Inc
