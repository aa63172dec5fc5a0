/- OPENING WHAT CAME IN: slices of the law's acts (a kind, a place, a number, numbers). -/
import Derived.Test.YtcgapplblhbdlaaRows
import Derived.Test.YtcgapplblhbdlaaOpen
import Derived.Test.YtcgapplblhbdlaaOpenInts
import Derived.Deep.Slices
namespace Go.Inc
open Go.RowKit Go.Deep Go.ChangeShapes Go.WideShapes
section
variable {H : Type} {enc : TypeId × Value → H} {P : Program} {w : World} {base : Nat} {held : Bool}
/-- A field of one cell. -/
theorem open_cell {e : TypeId} {fs : Array Field} {j k n off : Nat} {ft : TypeId} {a : Addr} {cs : List Value} {y : DataW H × List MemPlace} (he : P.underlying e = some (.struct fs)) (hf : (fs[j]?).map (fun f => (f.offset, f.type)) = some (off, ft)) (ho : off = j) (hc : P.cellsOf ft = 1) (hj : j < k)
    (hcs : w.cells? base a k = some cs) (ht : DataW.trod enc P w base (fun _ => true) held n e cs = some y) :
    ∃ v z n', w.cell? (a.add j) = some v ∧ DataW.trod enc P w base (fun _ => true) held n' ft [v] = some z := by
  obtain ⟨f, hf1, hf2⟩ := Option.map_eq_some_iff.1 hf
  simp only [Prod.mk.injEq] at hf2
  obtain ⟨hf2, hf3⟩ := hf2
  obtain ⟨xs, n', _, _, _, hxl, hx⟩ := DataW.trod_struct he ht
  obtain ⟨_, hl, hat⟩ := World.cells?_some hcs
  have hjs : j < fs.size := (Array.getElem?_eq_some_iff.1 hf1).1
  have h1 := hx j f hf1
  rw [hf2, hf3, hc, ho, List.getElem?_eq_getElem (by omega), List.drop_eq_getElem_cons (by omega)] at h1
  exact ⟨_, _, n', by rw [hat j hj]; exact List.getElem?_eq_getElem (by omega), h1⟩
end
end Go.Inc
namespace Go.Proofs.Ytcgapplblhbdlaa
open Go.RowKit Go.Inc Go.Deep Go.ChangeShapes Go.WideShapes

section
variable {H : Type} {enc : TypeId × Value → H} {w : World} {base : Nat} {held : Bool}
/-- An act: its kind, a place, a number, some numbers. -/
structure Pac where
  kind : Int
  I : Int
  N : Int
  L : List Int
instance : Inhabited Pac := ⟨⟨0, 0, 0, []⟩⟩
def Pac.ok (t : Pac) : Prop := (-9223372036854775808 ≤ t.kind ∧ t.kind ≤ 9223372036854775807) ∧ (-9223372036854775808 ≤ t.I ∧ t.I ≤ 9223372036854775807) ∧ (-9223372036854775808 ≤ t.N ∧ t.N ≤ 9223372036854775807)
def PacS (ok : Nat → Prop) (w : World) (a : Option Addr) (ts : List Pac) : Prop := ∀ i t, ts[i]? = some t → ∃ b o aL cL, a = some ⟨b, o, none⟩ ∧ ok b ∧ w.cell? ⟨b, o + i * 4, none⟩ = some (.int .i64 t.kind) ∧ w.cell? ⟨b, o + i * 4 + 1, none⟩ = some (.int .i64 t.I) ∧ w.cell? ⟨b, o + i * 4 + 2, none⟩ = some (.int .i64 t.N) ∧ w.cell? ⟨b, o + i * 4 + 3, none⟩ = some (.slice aL t.L.length cL) ∧ Si ok w aL t.L ∧ t.L.length ≤ cL ∧ cL ≤ maxLen ∧ t.ok
theorem pacFields : ∃ fs, Try.prog.underlying 34 = some (.struct fs) ∧ (fs[0]?).map (fun f => (f.offset, f.type)) = some (0, 3) ∧ (fs[1]?).map (fun f => (f.offset, f.type)) = some (1, 3) ∧ (fs[2]?).map (fun f => (f.offset, f.type)) = some (2, 3) ∧ (fs[3]?).map (fun f => (f.offset, f.type)) = some (3, 22) :=
  ⟨_, Try.underlying34, rfl, rfl, rfl, rfl⟩
theorem pacCells : Try.prog.cellsOf 34 = 4 := by kernel_rfl
theorem intCells : Try.prog.cellsOf 3 = 1 := by kernel_rfl
theorem intsCells : Try.prog.cellsOf 22 = 1 := by kernel_rfl
theorem add3 (b o i j : Nat) : ((⟨b, o, none⟩ : Addr).add i).add j = ⟨b, o + i + j, none⟩ := by rw [Addr.add_lit, Addr.add_lit]
theorem open_pacts {fuel : Nat} {v : Value} {x : DataW H × List MemPlace} (h : DataW.trod enc Try.prog w base (fun _ => true) held fuel 23 [v] = some x) :
    ∃ a c ts, v = .slice a (List.length ts) c ∧ PacS (fun _ => True) w a ts ∧ ts.length ≤ c ∧ c ≤ maxLen := by
  rcases open_slice Try.underlying23 h with ⟨hcs, _⟩ | ⟨a, len, cap, m, n, D, Pl, hcs, _, hl, hm, hmm, _, hi⟩
  · simp at hcs
    exact ⟨none, 0, [], hcs, (fun i t h => by simp at h), Nat.le_refl _, Nat.zero_le _⟩
  · simp only [List.cons.injEq, and_true] at hcs
    simp only [if_true] at hmm
    subst hmm
    obtain ⟨fs, hu, f0, f1, f2, f3⟩ := pacFields
    rw [pacCells] at hi
    have each : ∀ i, i < m → ∃ y : Pac × (Option Addr × Nat), w.cell? (a.add (i * 4)) = some (.int .i64 y.1.kind) ∧ w.cell? ((a.add (i * 4)).add 1) = some (.int .i64 y.1.I) ∧ w.cell? ((a.add (i * 4)).add 2) = some (.int .i64 y.1.N) ∧ w.cell? ((a.add (i * 4)).add 3) = some (.slice y.2.1 y.1.L.length y.2.2) ∧
        Si (fun _ => True) w y.2.1 y.1.L ∧ y.1.L.length ≤ y.2.2 ∧ y.2.2 ≤ maxLen ∧ y.1.ok := by
      intro i him
      obtain ⟨cs, hc, ht⟩ := hi i him
      obtain ⟨v0, z0, n0, q0, t0⟩ := open_cell hu f0 rfl intCells (by decide) hc ht
      obtain ⟨v1, z1, n1, q1, t1⟩ := open_cell hu f1 rfl intCells (by decide) hc ht
      obtain ⟨v2, z2, n2, q2, t2⟩ := open_cell hu f2 rfl intCells (by decide) hc ht
      obtain ⟨v3, z3, n3, q3, t3⟩ := open_cell hu f3 rfl intsCells (by decide) hc ht
      obtain ⟨x0, e0, _, w0⟩ := DataW.trod_int Try.underlying3 t0
      simp only [List.cons.injEq, and_true] at e0
      subst e0
      obtain ⟨x1, e1, _, w1⟩ := DataW.trod_int Try.underlying3 t1
      simp only [List.cons.injEq, and_true] at e1
      subst e1
      obtain ⟨x2, e2, _, w2⟩ := DataW.trod_int Try.underlying3 t2
      simp only [List.cons.injEq, and_true] at e2
      subst e2
      obtain ⟨aL, cL, zs, rfl, _, hs, hb1, hb2, _⟩ := open_si Try.underlying22 Try.underlying3 (by kernel_rfl) t3
      exact ⟨(⟨x0, x1, x2, zs⟩, (aL, cL)), by rw [add_add, Nat.add_zero] at q0; exact q0, q1, q2, q3, hs, hb1, hb2, bounds_i64 w0, bounds_i64 w1, bounds_i64 w2⟩
    obtain ⟨y, hy⟩ := choose_lt each
    have hlen : ((List.range len).map fun i => (y i).1).length = len := by simp
    refine ⟨some a, m, (List.range len).map fun i => (y i).1, by rw [hlen]; exact hcs, ?_, by rw [hlen]; exact hl, hm⟩
    intro i t ht
    rw [List.getElem?_map] at ht
    obtain ⟨i', hi1, rfl⟩ := Option.map_eq_some_iff.1 ht
    obtain ⟨hi2, hi3⟩ := List.getElem?_eq_some_iff.1 hi1
    rw [List.length_range] at hi2
    rw [List.getElem_range] at hi3
    subst hi3
    have h00 := (hy 0 (by omega)).1
    rw [Nat.zero_mul] at h00
    obtain ⟨b, o, rfl⟩ := add_spot h00
    obtain ⟨q0, q1, q2, q3, r⟩ := hy i (by omega)
    rw [add3] at q1 q2 q3
    rw [Addr.add_lit] at q0
    exact ⟨b, o, _, _, rfl, trivial, q0, q1, q2, q3, r⟩
theorem PacS.old {ok : Nat → Prop} {a : Option Addr} {ts : List Pac} (h : PacS ok w a ts) : PacS (fun b => b < w.heap.size) w a ts := fun i t hi => by
  obtain ⟨b, o, aL, cL, h1, h2, h3, h4, h5, h6, h7, r⟩ := h i t hi
  exact ⟨b, o, aL, cL, h1, cell_lt h3, h3, h4, h5, h6, h7.mono fun _ _ h => h, r⟩
theorem PacS.below {w' : World} {ok : Nat → Prop} {a : Option Addr} {ts : List Pac} (h : PacS ok w a ts) (hb : Below w.heap.size w w') : PacS ok w' a ts := fun i t hi => by
  obtain ⟨b, o, aL, cL, h1, h2, h3, h4, h5, h6, h7, r⟩ := h i t hi
  exact ⟨b, o, aL, cL, h1, h2, (hb.cell (cell_lt h3)).trans h3, (hb.cell (cell_lt h4)).trans h4, (hb.cell (cell_lt h5)).trans h5, (hb.cell (cell_lt h6)).trans h6, h7.below hb, r⟩
end
end Go.Proofs.Ytcgapplblhbdlaa
