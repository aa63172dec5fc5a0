/- THE LAW BitmapSets: the walk. -/
import Derived.Test.YtjgnnofpilmgoaaDoorBmNz
import Derived.Test.YtjgnnofpilmgoaaDoorBmLaid
import Derived.BigRegion
namespace Go.Proofs.YtjgnnofpilmgoaaDoor
open Go.RowKit Go.Inc

theorem numsI_inj {a b : List Bool} (hl : a.length = b.length) : (numsI a = numsI b) = (a = b) := propext ⟨fun h => ext_inB hl fun i hi => by
  have e : ∀ {m : List Bool}, ((i : Int) ∈ numsI m) ↔ (i < m.length ∧ inB m i = true) := fun {m} => by
    unfold numsI
    rw [List.mem_map]
    constructor
    · rintro ⟨x, hx, hxi⟩
      obtain rfl : x = i := by omega
      exact numsTo_mem.1 hx
    · intro h
      exact ⟨i, numsTo_mem.2 h, rfl⟩
  have e1 := @e a
  have e2 := @e b
  rw [h, e2] at e1
  cases ha : inB a i <;> cases hb : inB b i <;> simp_all, fun h => by rw [h]⟩
end Go.Proofs.YtjgnnofpilmgoaaDoor

