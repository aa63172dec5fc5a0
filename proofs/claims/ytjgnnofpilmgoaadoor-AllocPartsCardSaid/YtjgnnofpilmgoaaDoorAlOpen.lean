/- OPENING WHAT CAME IN: slices of the law's acts (a kind, a number, pages). -/
import Derived.Test.YtjgnnofpilmgoaaDoorBmOpen
namespace Go.Proofs.YtjgnnofpilmgoaaDoor
open Go.RowKit Go.Inc Go.Deep Go.ChangeShapes Go.WideShapes

section
variable {H : Type} {enc : TypeId × Value → H} {w : World} {base : Nat} {held : Bool}
/-- An act: its kind, a number, some pages. -/
structure Aac where
  kind : Int
  N : Int
  L : List Int
def AacS (ok : Nat → Prop) (w : World) (a : Option Addr) (ts : List Aac) : Prop := ∀ i t, ts[i]? = some t → ∃ b o aL cL, a = some ⟨b, o, none⟩ ∧ ok b ∧ w.cell? ⟨b, o + i * 3, none⟩ = some (.int .i64 t.kind) ∧ w.cell? ⟨b, o + i * 3 + 1, none⟩ = some (.int .i64 t.N) ∧ w.cell? ⟨b, o + i * 3 + 2, none⟩ = some (.slice aL t.L.length cL) ∧ Si ok w aL t.L ∧ t.L.length ≤ cL ∧ cL ≤ maxLen ∧ (-9223372036854775808 ≤ t.kind ∧ t.kind ≤ 9223372036854775807) ∧ (-9223372036854775808 ≤ t.N ∧ t.N ≤ 9223372036854775807)
theorem aacFields : ∃ fs, Tryd.prog.underlying 33 = some (.struct fs) ∧ (fs[0]?).map (fun f => (f.offset, f.type)) = some (0, 3) ∧ (fs[1]?).map (fun f => (f.offset, f.type)) = some (1, 3) ∧ (fs[2]?).map (fun f => (f.offset, f.type)) = some (2, 22) :=
  ⟨_, Tryd.underlying33, rfl, rfl, rfl⟩
theorem aacCells : Tryd.prog.cellsOf 33 = 3 := by kernel_rfl
theorem intCells : Tryd.prog.cellsOf 3 = 1 := by kernel_rfl
theorem intsCells : Tryd.prog.cellsOf 22 = 1 := by kernel_rfl
theorem add3 (b o i j : Nat) : ((⟨b, o, none⟩ : Addr).add i).add j = ⟨b, o + i + j, none⟩ := by rw [Addr.add_lit, Addr.add_lit]
theorem open_aacts {fuel : Nat} {v : Value} {x : DataW H × List MemPlace} (h : DataW.trod enc Tryd.prog w base (fun _ => true) held fuel 23 [v] = some x) :
    ∃ a c ts, v = .slice a (List.length ts) c ∧ AacS (fun _ => True) w a ts ∧ ts.length ≤ c ∧ c ≤ maxLen := by
  rcases open_slice Tryd.underlying23 h with ⟨hcs, _⟩ | ⟨a, len, cap, m, n, D, Pl, hcs, _, hl, hm, hmm, _, hi⟩
  · simp at hcs
    exact ⟨none, 0, [], hcs, (fun i t h => by simp at h), Nat.le_refl _, Nat.zero_le _⟩
  · simp only [List.cons.injEq, and_true] at hcs
    simp only [if_true] at hmm
    subst hmm
    obtain ⟨fs, hu, f0, f1, f2⟩ := aacFields
    rw [aacCells] at hi
    have each : ∀ i, i < m → ∃ y : (Int × Int × List Int) × (Option Addr × Nat), w.cell? (a.add (i * 3)) = some (.int .i64 y.1.1) ∧ w.cell? ((a.add (i * 3)).add 1) = some (.int .i64 y.1.2.1) ∧ w.cell? ((a.add (i * 3)).add 2) = some (.slice y.2.1 y.1.2.2.length y.2.2) ∧
        Si (fun _ => True) w y.2.1 y.1.2.2 ∧ y.1.2.2.length ≤ y.2.2 ∧ y.2.2 ≤ maxLen ∧ (-9223372036854775808 ≤ y.1.1 ∧ y.1.1 ≤ 9223372036854775807) ∧ (-9223372036854775808 ≤ y.1.2.1 ∧ y.1.2.1 ≤ 9223372036854775807) := by
      intro i him
      obtain ⟨cs, hc, ht⟩ := hi i him
      obtain ⟨v0, z0, n0, q0, t0⟩ := open_cell hu f0 rfl intCells (by decide) hc ht
      obtain ⟨v1, z1, n1, q1, t1⟩ := open_cell hu f1 rfl intCells (by decide) hc ht
      obtain ⟨v2, z2, n2, q2, t2⟩ := open_cell hu f2 rfl intsCells (by decide) hc ht
      obtain ⟨x0, e0, _, w0⟩ := DataW.trod_int Tryd.underlying3 t0
      simp only [List.cons.injEq, and_true] at e0
      subst e0
      obtain ⟨x1, e1, _, w1⟩ := DataW.trod_int Tryd.underlying3 t1
      simp only [List.cons.injEq, and_true] at e1
      subst e1
      obtain ⟨aL, cL, zs, rfl, _, hs, hb1, hb2, _⟩ := open_si Tryd.underlying22 Tryd.underlying3 (by kernel_rfl) t2
      exact ⟨((x0, x1, zs), (aL, cL)), by rw [add_add, Nat.add_zero] at q0; exact q0, q1, q2, hs, hb1, hb2, bounds_i64 w0, bounds_i64 w1⟩
    obtain ⟨y, hy⟩ := choose_lt each
    have hlen : ((List.range len).map fun i => (⟨(y i).1.1, (y i).1.2.1, (y i).1.2.2⟩ : Aac)).length = len := by simp
    refine ⟨some a, m, (List.range len).map fun i => ⟨(y i).1.1, (y i).1.2.1, (y i).1.2.2⟩, by rw [hlen]; exact hcs, ?_, by rw [hlen]; exact hl, hm⟩
    intro i t ht
    rw [List.getElem?_map] at ht
    obtain ⟨i', hi1, rfl⟩ := Option.map_eq_some_iff.1 ht
    obtain ⟨hi2, hi3⟩ := List.getElem?_eq_some_iff.1 hi1
    rw [List.length_range] at hi2
    rw [List.getElem_range] at hi3
    subst hi3
    have h00 := (hy 0 (by omega)).1
    rw [Nat.zero_mul] at h00
    obtain ⟨b, o, rfl⟩ := add_spot h00
    obtain ⟨q0, q1, q2, r⟩ := hy i (by omega)
    rw [add3] at q1 q2
    rw [Addr.add_lit] at q0
    exact ⟨b, o, _, _, rfl, trivial, q0, q1, q2, r⟩
theorem AacS.old {ok : Nat → Prop} {a : Option Addr} {ts : List Aac} (h : AacS ok w a ts) : AacS (fun b => b < w.heap.size) w a ts := fun i t hi => by
  obtain ⟨b, o, aL, cL, h1, h2, h3, h4, h5, h6, r⟩ := h i t hi
  exact ⟨b, o, aL, cL, h1, cell_lt h3, h3, h4, h5, h6.mono fun _ _ h => h, r⟩
theorem AacS.below {w' : World} {ok : Nat → Prop} {a : Option Addr} {ts : List Aac} (h : AacS ok w a ts) (hb : Below w.heap.size w w') : AacS ok w' a ts := fun i t hi => by
  obtain ⟨b, o, aL, cL, h1, h2, h3, h4, h5, h6, r⟩ := h i t hi
  exact ⟨b, o, aL, cL, h1, h2, (hb.cell (cell_lt h3)).trans h3, (hb.cell (cell_lt h4)).trans h4, (hb.cell (cell_lt h5)).trans h5, h6.below hb, r⟩
end
end Go.Proofs.YtjgnnofpilmgoaaDoor
