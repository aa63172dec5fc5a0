/- OPENING WHAT CAME IN: slices of the law's acts (a kind, numbers). -/
import Derived.Test.YtpdkfmanehgabaaDoorBmLaid
import Derived.Test.YtpdkfmanehgabaaDoorOpen
import Derived.Test.YtpdkfmanehgabaaDoorOpenInts
import Derived.Deep.Slices
namespace Go.Inc
open Go.RowKit Go.Deep Go.ChangeShapes Go.WideShapes
section
variable {H : Type} {enc : TypeId × Value → H} {P : Program} {w : World} {base : Nat} {held : Bool}
/-- A field of one cell. -/
theorem open_cell {e : TypeId} {fs : Array Field} {j k n off : Nat} {ft : TypeId} {a : Addr} {cs : List Value} {y : DataW H × List MemPlace} (he : P.underlying e = some (.struct fs)) (hf : (fs[j]?).map (fun f => (f.offset, f.type)) = some (off, ft)) (ho : off = j) (hc : P.cellsOf ft = 1) (hj : j < k)
    (hcs : w.cells? base a k = some cs) (ht : DataW.trod enc P w base (fun _ => true) held n e cs = some y) :
    ∃ v z n', w.cell? (a.add j) = some v ∧ DataW.trod enc P w base (fun _ => true) held n' ft [v] = some z := by
  obtain ⟨f, hf1, hf2⟩ := Option.map_eq_some_iff.1 hf
  simp only [Prod.mk.injEq] at hf2
  obtain ⟨hf2, hf3⟩ := hf2
  obtain ⟨xs, n', _, _, _, hxl, hx⟩ := DataW.trod_struct he ht
  obtain ⟨_, hl, hat⟩ := World.cells?_some hcs
  have hjs : j < fs.size := (Array.getElem?_eq_some_iff.1 hf1).1
  have h1 := hx j f hf1
  rw [hf2, hf3, hc, ho, List.getElem?_eq_getElem (by omega), List.drop_eq_getElem_cons (by omega)] at h1
  exact ⟨_, _, n', by rw [hat j hj]; exact List.getElem?_eq_getElem (by omega), h1⟩
end
end Go.Inc
namespace Go.Proofs.YtpdkfmanehgabaaDoor
open Go.RowKit Go.Inc Go.Deep Go.ChangeShapes Go.WideShapes

section
variable {H : Type} {enc : TypeId × Value → H} {w : World} {base : Nat} {held : Bool}
/-- An act: put in or take out, some numbers. -/
structure Bac where
  kind : Int
  L : List Int
def BacS (ok : Nat → Prop) (w : World) (a : Option Addr) (ts : List Bac) : Prop := ∀ i t, ts[i]? = some t → ∃ b o aL cL, a = some ⟨b, o, none⟩ ∧ ok b ∧ w.cell? ⟨b, o + i * 2, none⟩ = some (.int .i64 t.kind) ∧ w.cell? ⟨b, o + i * 2 + 1, none⟩ = some (.slice aL t.L.length cL) ∧ Si ok w aL t.L ∧ t.L.length ≤ cL ∧ cL ≤ maxLen ∧ (-9223372036854775808 ≤ t.kind ∧ t.kind ≤ 9223372036854775807)
theorem bacFields : ∃ fs, Tryd.prog.underlying 34 = some (.struct fs) ∧ (fs[0]?).map (fun f => (f.offset, f.type)) = some (0, 3) ∧ (fs[1]?).map (fun f => (f.offset, f.type)) = some (1, 32) :=
  ⟨_, Tryd.underlying34, rfl, rfl⟩
theorem bacCells : Tryd.prog.cellsOf 34 = 2 := by kernel_rfl
theorem intCells : Tryd.prog.cellsOf 3 = 1 := by kernel_rfl
theorem intsCells : Tryd.prog.cellsOf 32 = 1 := by kernel_rfl
theorem add3 (b o i j : Nat) : ((⟨b, o, none⟩ : Addr).add i).add j = ⟨b, o + i + j, none⟩ := by rw [Addr.add_lit, Addr.add_lit]
theorem open_bacts {fuel : Nat} {v : Value} {x : DataW H × List MemPlace} (h : DataW.trod enc Tryd.prog w base (fun _ => true) held fuel 22 [v] = some x) :
    ∃ a c ts, v = .slice a (List.length ts) c ∧ BacS (fun _ => True) w a ts ∧ ts.length ≤ c ∧ c ≤ maxLen := by
  rcases open_slice Tryd.underlying22 h with ⟨hcs, _⟩ | ⟨a, len, cap, m, n, D, Pl, hcs, _, hl, hm, hmm, _, hi⟩
  · simp at hcs
    exact ⟨none, 0, [], hcs, (fun i t h => by simp at h), Nat.le_refl _, Nat.zero_le _⟩
  · simp only [List.cons.injEq, and_true] at hcs
    simp only [if_true] at hmm
    subst hmm
    obtain ⟨fs, hu, f0, f1⟩ := bacFields
    rw [bacCells] at hi
    have each : ∀ i, i < m → ∃ y : (Int × List Int) × (Option Addr × Nat), w.cell? (a.add (i * 2)) = some (.int .i64 y.1.1) ∧ w.cell? ((a.add (i * 2)).add 1) = some (.slice y.2.1 y.1.2.length y.2.2) ∧
        Si (fun _ => True) w y.2.1 y.1.2 ∧ y.1.2.length ≤ y.2.2 ∧ y.2.2 ≤ maxLen ∧ (-9223372036854775808 ≤ y.1.1 ∧ y.1.1 ≤ 9223372036854775807) := by
      intro i him
      obtain ⟨cs, hc, ht⟩ := hi i him
      obtain ⟨v0, z0, n0, q0, t0⟩ := open_cell hu f0 rfl intCells (by decide) hc ht
      obtain ⟨v1, z1, n1, q1, t1⟩ := open_cell hu f1 rfl intsCells (by decide) hc ht
      obtain ⟨x0, e0, _, w0⟩ := DataW.trod_int Tryd.underlying3 t0
      simp only [List.cons.injEq, and_true] at e0
      subst e0
      obtain ⟨aL, cL, zs, rfl, _, hs, hb1, hb2, _⟩ := open_si Tryd.underlying32 Tryd.underlying3 (by kernel_rfl) t1
      exact ⟨((x0, zs), (aL, cL)), by rw [add_add, Nat.add_zero] at q0; exact q0, q1, hs, hb1, hb2, bounds_i64 w0⟩
    obtain ⟨y, hy⟩ := choose_lt each
    have hlen : ((List.range len).map fun i => (⟨(y i).1.1, (y i).1.2⟩ : Bac)).length = len := by simp
    refine ⟨some a, m, (List.range len).map fun i => ⟨(y i).1.1, (y i).1.2⟩, by rw [hlen]; exact hcs, ?_, by rw [hlen]; exact hl, hm⟩
    intro i t ht
    rw [List.getElem?_map] at ht
    obtain ⟨i', hi1, rfl⟩ := Option.map_eq_some_iff.1 ht
    obtain ⟨hi2, hi3⟩ := List.getElem?_eq_some_iff.1 hi1
    rw [List.length_range] at hi2
    rw [List.getElem_range] at hi3
    subst hi3
    have h00 := (hy 0 (by omega)).1
    rw [Nat.zero_mul] at h00
    obtain ⟨b, o, rfl⟩ := add_spot h00
    obtain ⟨q0, q1, r⟩ := hy i (by omega)
    rw [add3] at q1
    rw [Addr.add_lit] at q0
    exact ⟨b, o, _, _, rfl, trivial, q0, q1, r⟩
theorem BacS.old {ok : Nat → Prop} {a : Option Addr} {ts : List Bac} (h : BacS ok w a ts) : BacS (fun b => b < w.heap.size) w a ts := fun i t hi => by
  obtain ⟨b, o, aL, cL, h1, h2, h3, h4, h5, r⟩ := h i t hi
  exact ⟨b, o, aL, cL, h1, cell_lt h3, h3, h4, h5.mono fun _ _ h => h, r⟩
theorem BacS.below {w' : World} {ok : Nat → Prop} {a : Option Addr} {ts : List Bac} (h : BacS ok w a ts) (hb : Below w.heap.size w w') : BacS ok w' a ts := fun i t hi => by
  obtain ⟨b, o, aL, cL, h1, h2, h3, h4, h5, r⟩ := h i t hi
  exact ⟨b, o, aL, cL, h1, h2, (hb.cell (cell_lt h3)).trans h3, (hb.cell (cell_lt h4)).trans h4, h5.below hb, r⟩
end
end Go.Proofs.YtpdkfmanehgabaaDoor
