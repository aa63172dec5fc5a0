/- PLAIN FACTS OF SYMBOLS: how often each is in a text, which are in it. No program is named here. -/
import Derived.Test.YtbhpfdpcafdeaaaBmLib
namespace Go.Inc
open Go.RowKit
theorem count_take {zs : List Int} {k : Nat} (h : k < zs.length) (s : Int) : (zs.take (k + 1)).count s = (zs.take k).count s + (if zs.getD k 0 = s then 1 else 0) := by
  rw [List.take_succ_eq_append_getElem h, List.count_append, List.getD_eq_getElem?_getD, List.getElem?_eq_getElem h]
  simp only [Option.getD_some]
  by_cases h1 : zs[k] = s
  · rw [if_pos h1, h1]; simp
  · rw [if_neg h1, List.count_singleton, if_neg (by simpa using h1)]
/-- The symbols below n that are in a text; how often each is. -/
def symT (zs : List Int) : Nat → List Nat
  | 0 => []
  | n + 1 => if 0 < zs.count (n : Int) then symT zs n ++ [n] else symT zs n
def cntT (zs : List Int) (n : Nat) : List Nat := (symT zs n).map fun s : Nat => zs.count (s : Int)
theorem symT_in {zs : List Int} {n : Nat} (h : 0 < zs.count (n : Int)) : symT zs (n + 1) = symT zs n ++ [n] := by
  show (if _ then _ else _) = _
  rw [if_pos h]
theorem symT_out {zs : List Int} {n : Nat} (h : ¬ 0 < zs.count (n : Int)) : symT zs (n + 1) = symT zs n := by
  show (if _ then _ else _) = _
  rw [if_neg h]
theorem cntT_in {zs : List Int} {n : Nat} (h : 0 < zs.count (n : Int)) : cntT zs (n + 1) = cntT zs n ++ [zs.count (n : Int)] := by
  unfold cntT
  rw [symT_in h, List.map_append]; rfl
theorem cntT_out {zs : List Int} {n : Nat} (h : ¬ 0 < zs.count (n : Int)) : cntT zs (n + 1) = cntT zs n := by
  unfold cntT
  rw [symT_out h]
theorem symT_len (zs : List Int) : ∀ n, (symT zs n).length ≤ n
  | 0 => Nat.le_refl _
  | n + 1 => by
    have := symT_len zs n
    by_cases h : 0 < zs.count (n : Int)
    · rw [symT_in h, List.length_append]; simp; omega
    · rw [symT_out h]; omega
theorem cntT_len (zs : List Int) (n : Nat) : (cntT zs n).length = (symT zs n).length := by simp [cntT]
/-- The text of documents, but for its end. -/
def txtD : List (List Nat) → List Nat
  | [] => []
  | d :: ds => d.map (· + 2) ++ 1 :: txtD ds
theorem txtD_append (a b : List (List Nat)) : txtD (a ++ b) = txtD a ++ txtD b := by
  induction a with
  | nil => rfl
  | cons d a ih => show d.map (· + 2) ++ 1 :: txtD (a ++ b) = _; rw [ih]; simp [txtD]
theorem txtD_take {ds : List (List Nat)} {t : Nat} (h : t < ds.length) : txtD (ds.take (t + 1)) = txtD (ds.take t) ++ ((ds.getD t []).map (· + 2) ++ [1]) := by
  rw [List.take_succ_eq_append_getElem h, txtD_append, List.getD_eq_getElem?_getD, List.getElem?_eq_getElem h]
  rfl
theorem txtD_le (ds : List (List Nat)) (t : Nat) : (txtD (ds.take t)).length ≤ (txtD ds).length := by
  have h := txtD_append (ds.take t) (ds.drop t)
  rw [List.take_append_drop] at h
  rw [h, List.length_append]
  omega
theorem map_take_snoc {d : List Nat} {k : Nat} (h : k < d.length) : (d.take (k + 1)).map (· + 2) = (d.take k).map (· + 2) ++ [d.getD k 0 + 2] := by
  rw [List.take_succ_eq_append_getElem h, List.map_append, List.getD_eq_getElem?_getD, List.getElem?_eq_getElem h]
  rfl
end Go.Inc
