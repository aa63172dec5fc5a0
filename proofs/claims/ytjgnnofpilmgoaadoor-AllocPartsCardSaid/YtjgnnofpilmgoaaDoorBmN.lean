/- CONTRACTS: what a set tells is the document's (tells). -/
import Derived.Test.YtjgnnofpilmgoaaDoorBmL
import Derived.Test.YtjgnnofpilmgoaaDoorBmK
import Derived.Test.YtjgnnofpilmgoaaDoorBmJ
import Derived.Test.YtjgnnofpilmgoaaDoorRows
import Derived.Test.YtjgnnofpilmgoaaDoorRow
import Derived.Deep.QuietTactic
import Derived.BigQuiet
import Derived.Deep.CutRange
namespace Go.Proofs.YtjgnnofpilmgoaaDoor
open Go.RowKit Go.Inc

/-- A set's numbers. -/
def numsI (m : List Bool) : List Int := (numsTo (inB m) m.length).map fun x : Nat => (x : Int)
/-- A slice of numbers, of the call's own. -/
def Ints (B : Nat) (w : World) (v : Value) (zs : List Int) : Prop := ∃ a c, v = .slice a zs.length c ∧ zs.length ≤ c ∧ c ≤ maxLen ∧ Si (fun b => B ≤ b) w a zs
theorem Ints.of {w : World} {B n : Nat} {v : Value} {m : List Bool} {e : TypeId} (h : w.ownsRow B e 1 v n (nvals (numsTo (inB m) m.length))) : Ints B w v (numsI m) := by
  obtain ⟨a, c, h1, _, _, h2, h3, h4⟩ := Si.ownedN h
  exact ⟨a, c, by rw [h1]; unfold numsI; rw [List.length_map], by unfold numsI; rw [List.length_map]; exact h2, h3, h4⟩
theorem allI_any (ok : Nat → Prop) (v : Value) (m : List Bool) (w : World) (h : Bm ok w v m) (ht : Tab w) :
    Calls Tryd.prog 36 #[v] w fun e w' => (∃ x, e = .returned x ∧ Ints w.heap.size w' x (numsI m)) ∧ Below w.heap.size w w' :=
  (all_any ok v m w h ht).mono fun _ _ ⟨⟨x, h1, h2⟩, hb⟩ => ⟨⟨x, h1, Ints.of h2⟩, hb⟩
/-- Runs in memory. -/
def RunsIn (B : Nat) (w : World) (v : Value) (l : List Run2) : Prop := ∃ a c, v = .slice a l.length c ∧ l.length ≤ c ∧ c ≤ maxLen ∧ (l = [] ∨ ∃ g, a = some ⟨g, 0, none⟩ ∧ B ≤ g ∧ ∀ i, i < l.length → w.cell? ⟨g, i * 2, none⟩ = some (.int .i64 ((l.getD i (0, 0)).1 : Int)) ∧ w.cell? ⟨g, i * 2 + 1, none⟩ = some (.int .i64 ((l.getD i (0, 0)).2 : Int)))
theorem RunsIn.below {w w' : World} {B : Nat} {v : Value} {l : List Run2} (h : RunsIn B w v l) (hb : Below w.heap.size w w') : RunsIn B w' v l := by
  obtain ⟨a, c, h1, h2, h3, h4⟩ := h
  refine ⟨a, c, h1, h2, h3, h4.imp id fun ⟨g, h5, h6, h7⟩ => ⟨g, h5, h6, fun i hi => ?_⟩⟩
  have h8 := h7 i hi
  exact ⟨(hb.cell (cell_lt h8.1)).trans h8.1, (hb.cell (cell_lt h8.2)).trans h8.2⟩
end Go.Proofs.YtjgnnofpilmgoaaDoor

