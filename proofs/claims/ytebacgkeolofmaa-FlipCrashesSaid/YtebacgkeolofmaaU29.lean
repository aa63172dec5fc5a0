/- OPENING WHAT CAME IN: slices of keeps, slices of acts. -/
import Derived.Test.YtebacgkeolofmaaU27
import Derived.Test.YtebacgkeolofmaaU7
import Derived.Deep.Slices
namespace Go.Inc
open Go.RowKit Go.Deep Go.ChangeShapes Go.WideShapes
section
variable {H : Type} {enc : TypeId × Value → H} {P : Program} {w : World} {base : Nat} {held : Bool}
/-- A field of one cell. -/
theorem open_cell {e : TypeId} {fs : Array Field} {j k n off : Nat} {ft : TypeId} {a : Addr} {cs : List Value} {y : DataW H × List MemPlace} (he : P.underlying e = some (.struct fs)) (hf : (fs[j]?).map (fun f => (f.offset, f.type)) = some (off, ft)) (ho : off = j) (hc : P.cellsOf ft = 1) (hj : j < k)
    (hcs : w.cells? base a k = some cs) (ht : DataW.trod enc P w base (fun _ => true) held n e cs = some y) :
    ∃ v z n', w.cell? (a.add j) = some v ∧ DataW.trod enc P w base (fun _ => true) held n' ft [v] = some z := by
  obtain ⟨f, hf1, hf2⟩ := Option.map_eq_some_iff.1 hf
  simp only [Prod.mk.injEq] at hf2
  obtain ⟨hf2, hf3⟩ := hf2
  obtain ⟨xs, n', _, _, _, hxl, hx⟩ := DataW.trod_struct he ht
  obtain ⟨_, hl, hat⟩ := World.cells?_some hcs
  have hjs : j < fs.size := (Array.getElem?_eq_some_iff.1 hf1).1
  have h1 := hx j f hf1
  rw [hf2, hf3, hc, ho, List.getElem?_eq_getElem (by omega), List.drop_eq_getElem_cons (by omega)] at h1
  exact ⟨_, _, n', by rw [hat j hj]; exact List.getElem?_eq_getElem (by omega), h1⟩
end
end Go.Inc
namespace Go.Proofs.Ytebacgkeolofmaa
open Go.RowKit Go.Inc Go.Deep Go.ChangeShapes Go.WideShapes

section
variable {H : Type} {enc : TypeId × Value → H} {w : World} {base : Nat} {held : Bool}
theorem keepFields : ∃ fs, Try.prog.underlying 104 = some (.struct fs) ∧ (fs[0]?).map (fun f => (f.offset, f.type)) = some (0, 3) ∧ (fs[1]?).map (fun f => (f.offset, f.type)) = some (1, 3) ∧ (fs[2]?).map (fun f => (f.offset, f.type)) = some (2, 3) :=
  ⟨_, Try.underlying104, rfl, rfl, rfl⟩
theorem cells3 : Try.prog.cellsOf 3 = 1 := by kernel_rfl
theorem cells88 : Try.prog.cellsOf 104 = 3 := by kernel_rfl
theorem add3 (b o i j : Nat) : ((⟨b, o, none⟩ : Addr).add i).add j = ⟨b, o + i + j, none⟩ := by rw [Addr.add_lit, Addr.add_lit]

theorem open_keeps {fuel : Nat} {v : Value} {x : DataW H × List MemPlace} (h : DataW.trod enc Try.prog w base (fun _ => true) held fuel 56 [v] = some x) :
    ∃ a c ks, v = .slice a (List.length ks) c ∧ KpS (fun _ => True) w a ks ∧ ks.length ≤ c ∧ c ≤ maxLen := by
  rcases open_slice Try.underlying56 h with ⟨hcs, _⟩ | ⟨a, len, cap, m, n, D, Pl, hcs, _, hl, hm, hmm, _, hi⟩
  · simp at hcs
    exact ⟨none, 0, [], hcs, ⟨(fun k h => by cases h), .inl rfl⟩, Nat.le_refl _, Nat.zero_le _⟩
  · simp only [List.cons.injEq, and_true] at hcs
    simp only [if_true] at hmm
    subst hmm
    obtain ⟨fs, hu, f0, f1, f2⟩ := keepFields
    rw [cells88] at hi
    have each : ∀ i, i < m → ∃ y : Int × Int × Int, w.cell? (a.add (i * 3)) = some (.int .i64 y.1) ∧ w.cell? ((a.add (i * 3)).add 1) = some (.int .i64 y.2.1) ∧ w.cell? ((a.add (i * 3)).add 2) = some (.int .i64 y.2.2) ∧ (-9223372036854775808 ≤ y.1 ∧ y.1 ≤ 9223372036854775807) := by
      intro i him
      obtain ⟨cs, hc, ht⟩ := hi i him
      obtain ⟨v0, z0, n0, q0, t0⟩ := open_cell hu f0 rfl cells3 (by decide) hc ht
      obtain ⟨v1, z1, n1, q1, t1⟩ := open_cell hu f1 rfl cells3 (by decide) hc ht
      obtain ⟨v2, z2, n2, q2, t2⟩ := open_cell hu f2 rfl cells3 (by decide) hc ht
      obtain ⟨x0, e0, _, w0⟩ := DataW.trod_int Try.underlying3 t0
      obtain ⟨x1, e1, _, _⟩ := DataW.trod_int Try.underlying3 t1
      obtain ⟨x2, e2, _, _⟩ := DataW.trod_int Try.underlying3 t2
      simp only [List.cons.injEq, and_true] at e0 e1 e2
      subst e0 e1 e2
      exact ⟨(x0, x1, x2), by rw [add_add, Nat.add_zero] at q0; exact q0, q1, q2, bounds_i64 w0⟩
    obtain ⟨y, hy⟩ := choose_lt each
    have hlen : ((List.range len).map fun i => (⟨(y i).1, (y i).2.1, (y i).2.2⟩ : Kp)).length = len := by simp
    refine ⟨some a, m, (List.range len).map fun i => ⟨(y i).1, (y i).2.1, (y i).2.2⟩, by rw [hlen]; exact hcs, ⟨fun k hk => ?_, ?_⟩, by rw [hlen]; exact hl, hm⟩
    · obtain ⟨i, hi1, rfl⟩ := List.mem_map.1 hk
      exact (hy i (by have := List.mem_range.1 hi1; omega)).2.2.2
    · by_cases h0 : len = 0
      · left; subst h0; rfl
      · have h00 := (hy 0 (by omega)).1
        rw [Nat.zero_mul] at h00
        obtain ⟨b, o, rfl⟩ := add_spot h00
        refine .inr ⟨b, o, rfl, trivial, fun i k hk => ?_⟩
        rw [List.getElem?_map] at hk
        obtain ⟨i', hi1, rfl⟩ := Option.map_eq_some_iff.1 hk
        obtain ⟨hi2, hi3⟩ := List.getElem?_eq_some_iff.1 hi1
        rw [List.length_range] at hi2
        rw [List.getElem_range] at hi3
        subst hi3
        obtain ⟨q0, q1, q2, _⟩ := hy i (by omega)
        rw [add3] at q1 q2
        rw [Addr.add_lit] at q0
        exact ⟨q0, q1, q2⟩

/-- An act. -/
structure Ac where
  kind : Int
  no : Int
  B : List Nat
  keep : List Kp
/-- .. in memory. -/
def Acts (ok : Nat → Prop) (w : World) (b o : Nat) (ts : List Ac) : Prop := ∀ i t, ts[i]? = some t → ∃ aB cB aK cK, w.cell? ⟨b, o + i * 4, none⟩ = some (.int .i64 t.kind) ∧ w.cell? ⟨b, o + i * 4 + 1, none⟩ = some (.int .i64 t.no) ∧
  w.cell? ⟨b, o + i * 4 + 2, none⟩ = some (.slice aB t.B.length cB) ∧ w.cell? ⟨b, o + i * 4 + 3, none⟩ = some (.slice aK t.keep.length cK) ∧ Sl ok w aB t.B ∧ KpS ok w aK t.keep ∧ t.B.length ≤ cB ∧ cB ≤ maxLen ∧ t.keep.length ≤ cK ∧ cK ≤ maxLen ∧
  (-9223372036854775808 ≤ t.kind ∧ t.kind ≤ 9223372036854775807) ∧ (-9223372036854775808 ≤ t.no ∧ t.no ≤ 9223372036854775807)
def AcS (ok : Nat → Prop) (w : World) (a : Option Addr) (ts : List Ac) : Prop := ts = [] ∨ ∃ b o, a = some ⟨b, o, none⟩ ∧ ok b ∧ Acts ok w b o ts

end
theorem AcS.mono {ok ok' : Nat → Prop} {w : World} {a : Option Addr} {ts : List Ac} (h : AcS ok w a ts) (hk : ∀ b, ok b → b < w.heap.size → ok' b) : AcS ok' w a ts := by
  rcases h with h | ⟨b, o, ha, hb, hc⟩
  · exact .inl h
  · by_cases h0 : ts = []
    · exact .inl h0
    · refine .inr ⟨b, o, ha, hk b hb ?_, fun i t hi => ?_⟩
      · obtain ⟨_, _, _, _, q0, _⟩ := hc 0 _ (List.getElem?_eq_getElem (List.length_pos_iff.2 h0))
        exact cell_lt q0
      · obtain ⟨aB, cB, aK, cK, q0, q1, q2, q3, hs, hp, r⟩ := hc i t hi
        refine ⟨aB, cB, aK, cK, q0, q1, q2, q3, hs.mono hk, ⟨hp.1, ?_⟩, r⟩
        rcases hp.2 with h | ⟨b', o', ha', hb', hk'⟩
        · exact .inl h
        · by_cases h1 : t.keep = []
          · exact .inl h1
          · refine .inr ⟨b', o', ha', hk b' hb' ?_, hk'⟩
            have := (hk' 0 _ (List.getElem?_eq_getElem (List.length_pos_iff.2 h1))).1
            exact cell_lt this
theorem KpS.mono {ok ok' : Nat → Prop} {w : World} {a : Option Addr} {ks : List Kp} (h : KpS ok w a ks) (hk : ∀ b, ok b → b < w.heap.size → ok' b) : KpS ok' w a ks := by
  refine ⟨h.1, ?_⟩
  rcases h.2 with h | ⟨b', o', ha', hb', hk'⟩
  · exact .inl h
  · by_cases h1 : ks = []
    · exact .inl h1
    · refine .inr ⟨b', o', ha', hk b' hb' ?_, hk'⟩
      exact cell_lt (hk' 0 _ (List.getElem?_eq_getElem (List.length_pos_iff.2 h1))).1
theorem KpS.front {ok : Nat → Prop} {w : World} {a : Option Addr} {ks : List Kp} (h : KpS ok w a ks) (k : Nat) : KpS ok w a (ks.take k) := by
  refine ⟨fun x hx => h.1 x (List.mem_of_mem_take hx), ?_⟩
  rcases h.2 with rfl | ⟨b, o, ha, hb, hk⟩
  · left; simp
  · refine .inr ⟨b, o, ha, hb, fun i x hi => ?_⟩
    rw [List.getElem?_take] at hi
    split at hi
    · exact hk i x hi
    · cases hi
end Go.Proofs.Ytebacgkeolofmaa
