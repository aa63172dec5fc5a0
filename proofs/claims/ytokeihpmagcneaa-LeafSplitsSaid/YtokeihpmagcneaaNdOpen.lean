/- OPENING WHAT CAME IN: a key, an entry, a node of the document's. -/
import Derived.Test.YtokeihpmagcneaaRows
import Derived.Test.YtokeihpmagcneaaNdA
import Derived.Test.YtokeihpmagcneaaOpen
import Derived.Test.YtokeihpmagcneaaOpenInts
import Derived.Lib.SmallJoins
import Derived.Deep.Slices
import Derived.Carry
namespace Go.Proofs.Ytokeihpmagcneaa
open Go.RowKit Go.Inc Go.Deep Go.ChangeShapes Go.WideShapes

theorem keyCells : Try.prog.cellsOf 48 = 2 := by kernel_rfl
theorem entCells : Try.prog.cellsOf 54 = 3 := by kernel_rfl
theorem ndCells : Try.prog.cellsOf 24 = 2 := by kernel_rfl
theorem intCellsN : Try.prog.cellsOf 3 = 1 := by kernel_rfl
section
variable {H : Type} {enc : TypeId × Value → H} {w : World} {base : Nat} {held : Bool}
theorem trod_key {fuel : Nat} {v0 v1 : Value} {x : DataW H × List MemPlace} (h : DataW.trod enc Try.prog w base (fun _ => true) held fuel 48 [v0, v1] = some x) :
    ∃ k : Ky, v0 = .int .i64 k.1 ∧ v1 = .int .i64 k.2 ∧ fitsK k := by
  obtain ⟨y0, y1, n, -, -, h0, h1⟩ := trod_struct2 Try.underlying48 h
  have h0' : DataW.trod enc Try.prog w base (fun _ => true) held n 3 (([v0, v1].drop 0).take (Try.prog.cellsOf 3)) = some y0 := h0
  have h1' : DataW.trod enc Try.prog w base (fun _ => true) held n 3 (([v0, v1].drop 1).take (Try.prog.cellsOf 3)) = some y1 := h1
  rw [intCellsN] at h0' h1'
  obtain ⟨x0, e0, _, w0⟩ := DataW.trod_int Try.underlying3 h0'
  obtain ⟨x1, e1, _, w1⟩ := DataW.trod_int Try.underlying3 h1'
  simp at e0 e1
  subst e0 e1
  have b0 := bounds_i64 w0
  have b1 := bounds_i64 w1
  exact ⟨(x0, x1), rfl, rfl, by unfold fitsK; simp only; omega⟩
theorem trod_ent {fuel : Nat} {v0 v1 v2 : Value} {x : DataW H × List MemPlace} (h : DataW.trod enc Try.prog w base (fun _ => true) held fuel 54 [v0, v1, v2] = some x) :
    ∃ e : Et, v0 = .int .i64 e.1.1 ∧ v1 = .int .i64 e.1.2 ∧ v2 = .int .i64 e.2 ∧ fitsE e := by
  obtain ⟨y0, y1, n, -, -, h0, h1⟩ := trod_struct2 Try.underlying54 h
  have h0' : DataW.trod enc Try.prog w base (fun _ => true) held n 48 (([v0, v1, v2].drop 0).take (Try.prog.cellsOf 48)) = some y0 := h0
  have h1' : DataW.trod enc Try.prog w base (fun _ => true) held n 3 (([v0, v1, v2].drop 2).take (Try.prog.cellsOf 3)) = some y1 := h1
  rw [keyCells] at h0'
  rw [intCellsN] at h1'
  obtain ⟨k, rfl, rfl, hk⟩ := trod_key h0'
  obtain ⟨x1, e1, _, w1⟩ := DataW.trod_int Try.underlying3 h1'
  simp at e1
  subst e1
  have b1 := bounds_i64 w1
  refine ⟨(k, x1), rfl, rfl, rfl, ?_⟩
  unfold fitsE
  exact ⟨hk, by simp only; omega⟩
theorem open_ents {fuel : Nat} {v : Value} {x : DataW H × List MemPlace} (h : DataW.trod enc Try.prog w base (fun _ => true) held fuel 22 [v] = some x) :
    ∃ a c xs, v = .slice a (List.length xs) c ∧ EtS (fun _ => True) w a xs ∧ (∀ x ∈ xs, fitsE x) ∧ xs.length ≤ c ∧ c ≤ maxLen := by
  rcases open_slice Try.underlying22 h with ⟨hcs, _⟩ | ⟨a, len, cap, m, n, D, Pl, hcs, _, hl, hm, hmm, _, hi⟩
  · simp at hcs
    exact ⟨none, 0, [], hcs, EtS.nil _ _ _, (fun x h => by cases h), Nat.le_refl _, Nat.zero_le _⟩
  · simp only [List.cons.injEq, and_true] at hcs
    simp only [if_true] at hmm
    subst hmm
    rw [entCells] at hi
    have each : ∀ i, i < m → ∃ y : Et, w.cell? (a.add (i * 3)) = some (.int .i64 y.1.1) ∧ w.cell? ((a.add (i * 3)).add 1) = some (.int .i64 y.1.2) ∧ w.cell? ((a.add (i * 3)).add 2) = some (.int .i64 y.2) ∧ fitsE y := by
      intro i him
      obtain ⟨cs, hc, ht⟩ := hi i him
      obtain ⟨_, hl, hat⟩ := World.cells?_some hc
      match cs, hl with
      | [c0, c1, c2], _ =>
        obtain ⟨e, rfl, rfl, rfl, he⟩ := trod_ent ht
        have h0 := hat 0 (by decide)
        rw [add_add, Nat.add_zero] at h0
        exact ⟨e, h0, hat 1 (by decide), hat 2 (by decide), he⟩
    haveI : Inhabited Et := ⟨et0⟩
    obtain ⟨y, hy⟩ := choose_lt each
    have hlen : ((List.range len).map y).length = len := by simp
    refine ⟨some a, m, (List.range len).map y, by rw [hlen]; exact hcs, ?_, ?_, by rw [hlen]; exact hl, hm⟩
    · by_cases h0 : len = 0
      · left
        subst h0; rfl
      · have h00 := (hy 0 (by omega)).1
        rw [Nat.zero_mul] at h00
        obtain ⟨b, o, rfl⟩ := add_spot h00
        refine .inr ⟨b, o, rfl, trivial, fun i hi2 => ?_⟩
        rw [hlen] at hi2
        obtain ⟨q0, q1, q2, _⟩ := hy i (by omega)
        have hg : ((List.range len).map y).getD i et0 = y i := by
          rw [List.getD_eq_getElem?_getD, List.getElem?_map, List.getElem?_range hi2]; rfl
        rw [hg]
        rw [Addr.add_lit] at q0
        rw [Addr.add_lit, Addr.add_lit] at q1 q2
        exact ⟨q0, q1, q2⟩
    · intro x hx
      obtain ⟨i, hi2, rfl⟩ := List.mem_map.1 hx
      exact (hy i (by have := List.mem_range.1 hi2; omega)).2.2.2
set_option maxRecDepth 100000 in
theorem open_key {b0 : Nat} {r : Reach} {v : Value} {d : DataW H} {p : List MemPlace} (hv : Value.okWide Try.prog w r b0 48 v) (h : DataW.Trod enc Try.prog w base (fun _ => true) held 48 v d p) :
    ∃ s z, v = .agg #[.int .i64 s, .int .i64 z] ∧ fitsK (s, z) := by
  obtain ⟨cs, rfl, hsz⟩ := okWide_struct Try.underlying48 hv
  obtain ⟨fuel, hf⟩ := h
  rw [keyCells] at hsz
  obtain ⟨c0, c1, rfl⟩ : ∃ c0 c1, cs = #[c0, c1] := by
    obtain ⟨l⟩ := cs
    match l, hsz with
    | [c0, c1], _ => exact ⟨c0, c1, rfl⟩
  obtain ⟨k, e0, e1, hk⟩ := trod_key (v0 := c0) (v1 := c1) (by simpa [Value.cells] using hf)
  exact ⟨k.1, k.2, by rw [e0, e1], hk⟩
set_option maxRecDepth 100000 in
theorem open_ent {b0 : Nat} {r : Reach} {v : Value} {d : DataW H} {p : List MemPlace} (hv : Value.okWide Try.prog w r b0 54 v) (h : DataW.Trod enc Try.prog w base (fun _ => true) held 54 v d p) :
    ∃ s z q, v = .agg #[.int .i64 s, .int .i64 z, .int .i64 q] ∧ fitsE ((s, z), q) := by
  obtain ⟨cs, rfl, hsz⟩ := okWide_struct Try.underlying54 hv
  obtain ⟨fuel, hf⟩ := h
  rw [entCells] at hsz
  obtain ⟨c0, c1, c2, rfl⟩ : ∃ c0 c1 c2, cs = #[c0, c1, c2] := by
    obtain ⟨l⟩ := cs
    match l, hsz with
    | [c0, c1, c2], _ => exact ⟨c0, c1, c2, rfl⟩
  obtain ⟨e, e0, e1, e2, he⟩ := trod_ent (v0 := c0) (v1 := c1) (v2 := c2) (by simpa [Value.cells] using hf)
  exact ⟨e.1.1, e.1.2, e.2, by rw [e0, e1, e2], he⟩
set_option maxRecDepth 100000 in
theorem open_node {b0 : Nat} {r : Reach} {v : Value} {d : DataW H} {p : List MemPlace} (hv : Value.okWide Try.prog w r b0 24 v) (h : DataW.Trod enc Try.prog w base (fun _ => true) held 24 v d p) :
    ∃ lf a n c es, v = .agg #[.bool lf, .slice a n c] ∧ EtS (fun _ => True) w a es ∧ n = es.length ∧ (∀ e ∈ es, fitsE e) := by
  obtain ⟨v0, v1, y0, y1, n, rfl, _, _, t0, t1⟩ := Go.Joins.open_agg2 Try.underlying24 (by kernel_rfl) ndCells hv h
  obtain ⟨x0, e0, _⟩ := DataW.trod_bool Try.underlying4 t0
  simp only [List.cons.injEq, and_true] at e0
  subst e0
  obtain ⟨a, c, es, rfl, hs, hf, -, -⟩ := open_ents t1
  exact ⟨x0, a, _, c, es, rfl, hs, rfl, hf⟩
end
end Go.Proofs.Ytokeihpmagcneaa
