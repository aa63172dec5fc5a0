/- SMALL LAWS: bytes appended to an empty literal; a result that is read from a row, beside another one. No program is named here. -/
import Derived.Test.YtebacgkeolofmaaU1
import Derived.Test.YtebacgkeolofmaaU11
import Derived.Laws.ResultCell
namespace Go.Inc
open Go Go.RowKit

/-- A slice of bytes in blocks that are ok. -/
def Bb (ok : Nat → Prop) (w : World) (v : Value) (bs : List Nat) : Prop := ∃ a c, v = .slice a bs.length c ∧ Sl ok w a bs ∧ bs.length ≤ c ∧ c ≤ maxLen ∧ (a = none → c = 0)
section
variable {ok ok' : Nat → Prop} {w w' : World} {v : Value} {bs : List Nat} {E B : Nat}
theorem Bb.below (h : Bb ok w v bs) (hb : Below w.heap.size w w') : Bb ok w' v bs := by
  obtain ⟨a, c, rfl, h1, h2⟩ := h
  exact ⟨a, c, rfl, h1.below hb, h2⟩
theorem Bb.mono (h : Bb ok w v bs) (hk : ∀ b, ok b → b < w.heap.size → ok' b) : Bb ok' w v bs := by
  obtain ⟨a, c, rfl, h1, h2⟩ := h
  exact ⟨a, c, rfl, h1.mono hk, h2⟩
theorem Row.bb (h : Row E B w v bs) : Bb (fun b => B ≤ b) w v bs := by
  obtain ⟨a, c, rfl, hn, h1, h2, hs⟩ := h.sl
  exact ⟨a, c, rfl, hs, h1, h2, hn⟩
end

/-- 'append([]byte{}, x...)': what stood is as it stood. -/
theorem run_append_lit {P : Program} (w : World) (t ty e : TypeId) (z : Value) (bytes : Nat) (ht : P.underlying t = some (.slice e)) (hi : (P.info? e).map (fun i => (i.zero, i.size, i.bytes)) = some (some z, 1, bytes))
    (g : Nat) (ok : Nat → Prop) (ao : Option Addr) (c : Nat) (bs : List Nat) (hs : Sl ok w ao bs) (hn : ao = none → c = 0) (hm : bs.length ≤ maxLen) (hby : bs.length * bytes ≤ 140737488355328) :
    ∃ v' w', (Builtin.append_ #[t, t] ty #[.slice (some ⟨g, 0, none⟩) 0 0, .slice ao bs.length c]).run P w = .ok v' w' ∧ Bb (fun b => w.heap.size ≤ b) w' v' bs ∧ Below w.heap.size w w' := by
  obtain ⟨i, hi, hz0, hz1, hz2⟩ := info_parts hi
  by_cases h0 : bs.length = 0
  · have hbs : bs = [] := List.eq_nil_of_length_eq_zero h0
    subst hbs
    refine ⟨.slice (some ⟨g, 0, none⟩) 0 0, w, ?_, ⟨_, 0, rfl, Sl.nil _ _ _, Nat.le_refl _, Nat.zero_le _, fun h => by cases h⟩, Below.refl _ _⟩
    cases ao with
    | none => simp [Builtin.append_, run_underlying ht, sizeOf, typeInfo, hi, Builtin.lenOf, Builtin.firstCells, storeCells]
    | some a => simp [Builtin.append_, run_underlying ht, sizeOf, typeInfo, hi, Builtin.lenOf, Builtin.firstCells, loadCells, loadCellsFrom, storeCells]
  · cases ao with
    | none => exact absurd (hs.some_len rfl) h0
    | some a =>
      have hr := run_append_grow (P := P) w t ty e i z ht hi hz0 ⟨g, 0, none⟩ 0 0 [] (by simp) (fun j u h => by simp at h) a bs.length c (u8s bs) (by rw [u8s_length, hz1, Nat.mul_one]) (hs.cells a rfl) (by omega) (by simp only [maxLen] at hm; omega) (by rw [hz2]; exact growslice_fits (by omega) (by rw [Nat.zero_add]; exact hby))
      have hge := grownCap_ge w bs.length 0 e
      simp only [Nat.zero_add, Array.empty_append] at hr
      refine ⟨_, _, hr, ⟨_, _, rfl, ?_, hge, grownCap_le_maxLen w bs.length 0 e hm, fun h => by cases h⟩, ⟨rfl, rfl, rfl, by simp, fun k hk => heap_alloc_old w.drew _ hk⟩⟩
      by_cases hb : bs = []
      · exact .inl hb
      · refine .inr ⟨w.heap.size, 0, rfl, Nat.le_refl _, fun j hj => ?_⟩
        rw [cell_of_row _ w.heap.size (0 + j) _ _ _ (heap_alloc_new w.drew _)]
        simp [Array.getElem?_append, u8s, hj]

/-- An append, as an operation of a region. -/
theorem upon_append {P : Program} {o : Oper} {b : Act} {K : Act → World → Prop} {Q : Exit → Act → World → Prop} {ρ : Operand → Value} {w w' : World} {v u v' : Value} (s x : Operand) (t : TypeId)
    (ho : o.op = .call { callee := .builtin .append, args := #[s, x], argTypes := #[t, t] }) (hs : ρ s = v) (hx : ρ x = u) (hr : (Builtin.append_ #[t, t] o.type #[v, u]).run P w = .ok v' w') (hk : K (b.put o.dst v') w') :
    o.upon P b K Q ((execOp ρ o).run P w) := by
  unfold execOp
  simp only [ho, resolve, invoke, builtin, Sem.run_bind, Sem.run_pure, Result.andThen_ok, List.map_toArray, List.map_cons, List.map_nil, hs, hx, hr]
  exact hk

theorem res_cell_tmp {P : Program} {fn : Func} {p u : Tmp} {ty : TypeId} (h : fn.results = #[.cell p ty, .tmp u]) (tmps : Array Value) (w : World) (g : Nat) (t : TypeId) (cs : Array Value) (fr : Nat × Nat) (d : TypeDesc)
    (hp : tmps.getD p undef = .pointer (some ⟨g, 0, none⟩)) (hg : w.heap[g]? = some (.cells cs t fr))
    (hu : P.underlying ty = some d) (hd : (match d with | .struct _ | .array _ _ => true | _ => false) = true) (hi : (P.info? ty).map (·.size) = some cs.size) :
    (results fn tmps).run P w = .ok (.tuple #[.agg cs, tmps.getD u undef]) w := by
  rw [results_cell_tmp h, hp]
  simp only [asAddr, Sem.run_pure, Result.andThen_ok]
  rw [run_loadVar_row w g t ty cs fr d hg hu hd hi]
  rfl
end Go.Inc
