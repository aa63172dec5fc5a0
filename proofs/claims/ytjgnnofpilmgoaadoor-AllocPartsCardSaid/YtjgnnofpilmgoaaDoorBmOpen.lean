/- OPENING WHAT CAME IN: slices of the law's acts (a kind, numbers). -/
import Derived.Test.YtjgnnofpilmgoaaDoorBmLaid
import Derived.Test.YtjgnnofpilmgoaaDoorOpen
import Derived.Test.YtjgnnofpilmgoaaDoorOpenInts
import Derived.Deep.Slices
namespace Go.Inc
open Go.RowKit Go.Deep Go.ChangeShapes Go.WideShapes
section
variable {H : Type} {enc : TypeId × Value → H} {P : Program} {w : World} {base : Nat} {held : Bool}
/-- A field of one cell. -/
theorem open_cell {e : TypeId} {fs : Array Field} {j k n off : Nat} {ft : TypeId} {a : Addr} {cs : List Value} {y : DataW H × List MemPlace} (he : P.underlying e = some (.struct fs)) (hf : (fs[j]?).map (fun f => (f.offset, f.type)) = some (off, ft)) (ho : off = j) (hc : P.cellsOf ft = 1) (hj : j < k)
    (hcs : w.cells? base a k = some cs) (ht : DataW.trod enc P w base (fun _ => true) held n e cs = some y) :
    ∃ v z n', w.cell? (a.add j) = some v ∧ DataW.trod enc P w base (fun _ => true) held n' ft [v] = some z := by
  obtain ⟨f, hf1, hf2⟩ := Option.map_eq_some_iff.1 hf
  simp only [Prod.mk.injEq] at hf2
  obtain ⟨hf2, hf3⟩ := hf2
  obtain ⟨xs, n', _, _, _, hxl, hx⟩ := DataW.trod_struct he ht
  obtain ⟨_, hl, hat⟩ := World.cells?_some hcs
  have hjs : j < fs.size := (Array.getElem?_eq_some_iff.1 hf1).1
  have h1 := hx j f hf1
  rw [hf2, hf3, hc, ho, List.getElem?_eq_getElem (by omega), List.drop_eq_getElem_cons (by omega)] at h1
  exact ⟨_, _, n', by rw [hat j hj]; exact List.getElem?_eq_getElem (by omega), h1⟩
end
end Go.Inc
namespace Go.Proofs.YtjgnnofpilmgoaaDoor
open Go.RowKit Go.Inc Go.Deep Go.ChangeShapes Go.WideShapes

section
variable {H : Type} {enc : TypeId × Value → H} {w : World} {base : Nat} {held : Bool}
/-- An act: put in or take out, some numbers. -/
structure Bac where
  kind : Int
  L : List Int
def BacS (ok : Nat → Prop) (w : World) (a : Option Addr) (ts : List Bac) : Prop := ∀ i t, ts[i]? = some t → ∃ b o aL cL, a = some ⟨b, o, none⟩ ∧ ok b ∧ w.cell? ⟨b, o + i * 2, none⟩ = some (.int .i64 t.kind) ∧ w.cell? ⟨b, o + i * 2 + 1, none⟩ = some (.slice aL t.L.length cL) ∧ Si ok w aL t.L ∧ t.L.length ≤ cL ∧ cL ≤ maxLen ∧ (-9223372036854775808 ≤ t.kind ∧ t.kind ≤ 9223372036854775807)
theorem BacS.old {ok : Nat → Prop} {a : Option Addr} {ts : List Bac} (h : BacS ok w a ts) : BacS (fun b => b < w.heap.size) w a ts := fun i t hi => by
  obtain ⟨b, o, aL, cL, h1, h2, h3, h4, h5, r⟩ := h i t hi
  exact ⟨b, o, aL, cL, h1, cell_lt h3, h3, h4, h5.mono fun _ _ h => h, r⟩
theorem BacS.below {w' : World} {ok : Nat → Prop} {a : Option Addr} {ts : List Bac} (h : BacS ok w a ts) (hb : Below w.heap.size w w') : BacS ok w' a ts := fun i t hi => by
  obtain ⟨b, o, aL, cL, h1, h2, h3, h4, h5, r⟩ := h i t hi
  exact ⟨b, o, aL, cL, h1, h2, (hb.cell (cell_lt h3)).trans h3, (hb.cell (cell_lt h4)).trans h4, h5.below hb, r⟩
end
end Go.Proofs.YtjgnnofpilmgoaaDoor

