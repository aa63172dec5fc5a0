/- OPENING WHAT CAME IN: slices of the document's extents. -/
import Derived.Test.YtlfpepkgnobjnaaExA
import Derived.Test.YtlfpepkgnobjnaaOpen
import Derived.Test.YtlfpepkgnobjnaaOpenInts
import Derived.Deep.Slices
namespace Go.Inc
open Go.RowKit Go.Deep Go.ChangeShapes Go.WideShapes
section
variable {H : Type} {enc : TypeId × Value → H} {P : Program} {w : World} {base : Nat} {held : Bool}
/-- A field of one cell. -/
theorem openCellX {e : TypeId} {fs : Array Field} {j k n off : Nat} {ft : TypeId} {a : Addr} {cs : List Value} {y : DataW H × List MemPlace} (he : P.underlying e = some (.struct fs)) (hf : (fs[j]?).map (fun f => (f.offset, f.type)) = some (off, ft)) (ho : off = j) (hc : P.cellsOf ft = 1) (hj : j < k)
    (hcs : w.cells? base a k = some cs) (ht : DataW.trod enc P w base (fun _ => true) held n e cs = some y) :
    ∃ v z n', w.cell? (a.add j) = some v ∧ DataW.trod enc P w base (fun _ => true) held n' ft [v] = some z := by
  obtain ⟨f, hf1, hf2⟩ := Option.map_eq_some_iff.1 hf
  simp only [Prod.mk.injEq] at hf2
  obtain ⟨hf2, hf3⟩ := hf2
  obtain ⟨xs, n', _, _, _, hxl, hx⟩ := DataW.trod_struct he ht
  obtain ⟨_, hl, hat⟩ := World.cells?_some hcs
  have hjs : j < fs.size := (Array.getElem?_eq_some_iff.1 hf1).1
  have h1 := hx j f hf1
  rw [hf2, hf3, hc, ho, List.getElem?_eq_getElem (by omega), List.drop_eq_getElem_cons (by omega)] at h1
  exact ⟨_, _, n', by rw [hat j hj]; exact List.getElem?_eq_getElem (by omega), h1⟩
end
end Go.Inc
namespace Go.Proofs.Ytlfpepkgnobjnaa
open Go.RowKit Go.Inc Go.Deep Go.ChangeShapes Go.WideShapes

section
variable {H : Type} {enc : TypeId × Value → H} {w : World} {base : Nat} {held : Bool}
theorem rextFields : ∃ fs, Try.prog.underlying 55 = some (.struct fs) ∧ (fs[0]?).map (fun f => (f.offset, f.type)) = some (0, 3) ∧ (fs[1]?).map (fun f => (f.offset, f.type)) = some (1, 3) :=
  ⟨_, Try.underlying55, rfl, rfl⟩
theorem rextCells : Try.prog.cellsOf 55 = 2 := by kernel_rfl
theorem intCellsX : Try.prog.cellsOf 3 = 1 := by kernel_rfl
/-- What fits in two integers. -/
def fitsX (x : Xt) : Prop := (-9223372036854775808 ≤ x.1 ∧ x.1 ≤ 9223372036854775807) ∧ -9223372036854775808 ≤ x.2 ∧ x.2 ≤ 9223372036854775807
theorem open_rexts {fuel : Nat} {v : Value} {x : DataW H × List MemPlace} (h : DataW.trod enc Try.prog w base (fun _ => true) held fuel 27 [v] = some x) :
    ∃ a c xs, v = .slice a (List.length xs) c ∧ XtS (fun _ => True) w a xs ∧ (∀ x ∈ xs, fitsX x) ∧ xs.length ≤ c ∧ c ≤ maxLen := by
  rcases open_slice Try.underlying27 h with ⟨hcs, _⟩ | ⟨a, len, cap, m, n, D, Pl, hcs, _, hl, hm, hmm, _, hi⟩
  · simp at hcs
    exact ⟨none, 0, [], hcs, XtS.nil _ _ _, (fun x h => by cases h), Nat.le_refl _, Nat.zero_le _⟩
  · simp only [List.cons.injEq, and_true] at hcs
    simp only [if_true] at hmm
    subst hmm
    obtain ⟨fs, hu, f0, f1⟩ := rextFields
    rw [rextCells] at hi
    have each : ∀ i, i < m → ∃ y : Xt, w.cell? (a.add (i * 2)) = some (.int .i64 y.1) ∧ w.cell? ((a.add (i * 2)).add 1) = some (.int .i64 y.2) ∧ fitsX y := by
      intro i him
      obtain ⟨cs, hc, ht⟩ := hi i him
      obtain ⟨v0, z0, n0, q0, t0⟩ := openCellX hu f0 rfl intCellsX (by decide) hc ht
      obtain ⟨v1, z1, n1, q1, t1⟩ := openCellX hu f1 rfl intCellsX (by decide) hc ht
      obtain ⟨x0, e0, _, w0⟩ := DataW.trod_int Try.underlying3 t0
      simp only [List.cons.injEq, and_true] at e0
      subst e0
      obtain ⟨x1, e1, _, w1⟩ := DataW.trod_int Try.underlying3 t1
      simp only [List.cons.injEq, and_true] at e1
      subst e1
      exact ⟨(x0, x1), by rw [add_add, Nat.add_zero] at q0; exact q0, q1, bounds_i64 w0, (bounds_i64 w1).1, (bounds_i64 w1).2⟩
    obtain ⟨y, hy⟩ := choose_lt each
    have hlen : ((List.range len).map y).length = len := by simp
    refine ⟨some a, m, (List.range len).map y, by rw [hlen]; exact hcs, ?_, ?_, by rw [hlen]; exact hl, hm⟩
    · by_cases h0 : len = 0
      · left
        subst h0; rfl
      · have h00 := (hy 0 (by omega)).1
        rw [Nat.zero_mul] at h00
        obtain ⟨b, o, rfl⟩ := add_spot h00
        refine .inr ⟨b, o, rfl, trivial, fun i hi2 => ?_⟩
        rw [hlen] at hi2
        obtain ⟨q0, q1, _⟩ := hy i (by omega)
        have hg : ((List.range len).map y).getD i (0, 0) = y i := by
          rw [List.getD_eq_getElem?_getD, List.getElem?_map, List.getElem?_range hi2]; rfl
        rw [hg]
        rw [Addr.add_lit] at q0
        rw [Addr.add_lit, Addr.add_lit] at q1
        exact ⟨q0, q1⟩
    · intro x hx
      obtain ⟨i, hi2, rfl⟩ := List.mem_map.1 hx
      exact (hy i (by have := List.mem_range.1 hi2; omega)).2.2
end
end Go.Proofs.Ytlfpepkgnobjnaa
