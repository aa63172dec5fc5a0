/- OPENING A SLICE OF INTEGERS THAT CAME IN. No program is named here. -/
import Derived.Test.YtdobjlaggdnphaaOpen
import Derived.Test.YtdobjlaggdnphaaRow
namespace Go.Inc
open Go.RowKit Go.Deep Go.ChangeShapes Go.WideShapes
variable {H : Type} {enc : TypeId × Value → H} {P : Program} {w : World} {base : Nat} {held : Bool}

/-- A slice of integers that came in. -/
theorem open_si {t e : TypeId} {fuel : Nat} {v : Value} {x : DataW H × List MemPlace} (ht : P.underlying t = some (.slice e)) (he : P.underlying e = some (.int .i64)) (ce : P.cellsOf e = 1)
    (h : DataW.trod enc P w base (fun _ => true) held fuel t [v] = some x) :
    ∃ a c zs, v = .slice a zs.length c ∧ (∀ z ∈ zs, -9223372036854775808 ≤ z ∧ z ≤ 9223372036854775807) ∧ Si (fun _ => True) w a zs ∧ zs.length ≤ c ∧ c ≤ maxLen ∧ (a = none → c = 0) := by
  rcases open_ints ht he ce h with ⟨hcs, hx⟩ | ⟨a, len, cap, zs, hcs, _, hl, hm, hz, hx, hcell, hwz⟩
  · simp at hcs
    exact ⟨none, 0, [], hcs, (fun _ h => by cases h), Si.nil _ _ _, Nat.le_refl _, Nat.zero_le _, fun _ => rfl⟩
  · simp only [List.cons.injEq, and_true] at hcs
    simp only [if_true] at hz
    have hlen : (zs.take len).length = len := by simp; omega
    refine ⟨some a, cap, zs.take len, by rw [hlen]; exact hcs, fun z h => bounds_i64 (hwz z (List.mem_of_mem_take h)), ?_, by rw [hlen]; exact hl, hm, fun h => by cases h⟩
    by_cases h0 : len = 0
    · left; subst h0; simp
    · obtain ⟨b, o, rfl⟩ := add_spot (hcell 0 (by omega))
      refine .inr ⟨b, o, rfl, trivial, fun i hi => ?_⟩
      rw [hlen] at hi
      have hc := hcell i (by omega)
      rw [Addr.add_lit] at hc
      rw [hc, List.getD_eq_getElem?_getD, List.getD_eq_getElem?_getD, List.getElem?_take, if_pos hi]
end Go.Inc

