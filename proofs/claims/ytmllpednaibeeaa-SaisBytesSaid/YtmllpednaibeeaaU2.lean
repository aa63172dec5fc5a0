/- SMALL LAWS: what may turn (Mv); a map from integers to values (Mp), ranged over (Rg); cells of a row. No program is named here. SMALL LAWS: lists of numbers; rows and slices of numbers. No program is named here. -/
import Derived.Test.YtmllpednaibeeaaU0
import Derived.Maps.RangeWalk
import Derived.WalkArith
import Derived.OpenShut
import Derived.Deep.Draws
namespace Go.Inc
open Go.RowKit Go.Maps

/-- Only blocks of F, and new ones, may have turned. -/
structure Mv (F : Nat → Prop) (w w' : World) : Prop where
  os : w'.os = w.os
  tape : w'.tape = w.tape
  output : w'.output = w.output
  size : w.heap.size ≤ w'.heap.size
  block : ∀ k, k < w.heap.size → ¬ F k → w'.heap[k]? = w.heap[k]?
section
variable {F F' : Nat → Prop} {w w' a b c : World}
theorem Mv.refl (F : Nat → Prop) (w : World) : Mv F w w := ⟨rfl, rfl, rfl, Nat.le_refl _, fun _ _ _ => rfl⟩
theorem Mv.trans' (h : Mv F a b) (k : Mv F' b c) (hF : ∀ i, i < a.heap.size → F' i → F i) : Mv F a c :=
  ⟨k.os.trans h.os, k.tape.trans h.tape, k.output.trans h.output, Nat.le_trans h.size k.size,
    fun i hi hn => (k.block i (Nat.lt_of_lt_of_le hi h.size) (fun hf => hn (hF i hi hf))).trans (h.block i hi hn)⟩
theorem Mv.trans (h : Mv F a b) (k : Mv F b c) : Mv F a c := h.trans' k fun _ _ h => h
theorem Mv.of_below (h : Below w.heap.size w w') : Mv F w w' := ⟨h.os, h.tape, h.output, h.size, fun i hi _ => h.block i hi⟩
theorem Mv.of_grown {r : Option Nat} (h : w.grownBy w' r) (hr : ∀ g, r = some g → g < w.heap.size → F g) : Mv F w w' :=
  ⟨h.os, h.tape, h.output, h.size, fun i hi hn => h.block i hi (by intro e; exact hn (hr i e.symm hi))⟩
theorem Mv.below (h : Mv F w w') {B : Nat} (hB : B ≤ w.heap.size) (hF : ∀ i, F i → B ≤ i) : Below B w w' :=
  ⟨h.os, h.tape, h.output, h.size, fun i hi => h.block i (by omega) (fun hf => by have := hF i hf; omega)⟩
theorem Mv.drew (h : Mv F w w') : Mv F w w'.drew := ⟨h.os, h.tape, h.output, h.size, h.block⟩
theorem Mv.drewN (h : Mv F w w') (n : Nat) : Mv F w (w'.drewN n) := ⟨h.os, h.tape, h.output, h.size, h.block⟩
theorem Mv.sub (h : Mv F w w') (hF : ∀ i, i < w.heap.size → F i → F' i) : Mv F' w w' :=
  ⟨h.os, h.tape, h.output, h.size, fun i hi hn => h.block i hi (fun hf => hn (hF i hi hf))⟩
theorem Sl.mv {ok : Nat → Prop} {p : Option Addr} {bs : List Nat} (h : Sl ok w p bs) (hm : Mv F w w') (hk : ∀ i, ok i → ¬ F i) : Sl ok w' p bs :=
  h.kept fun i hi hlt => hm.block i hlt (hk i hi)
theorem Pt.mv {ok : Nat → Prop} {p : Option Addr} {ps : List (List Nat)} (h : Pt ok w p ps) (hm : Mv F w w') (hk : ∀ i, ok i → ¬ F i) : Pt ok w' p ps :=
  h.kept fun i hi hlt => hm.block i hlt (hk i hi)
theorem Mv.cell (h : Mv F w w') {p : Addr} {v : Value} (hc : w.cell? p = some v) (hF : ¬ F p.block) : w'.cell? p = some v := by
  rw [← hc]; exact World.cell?_of_block (h.block _ (cell_lt hc) hF)
theorem Mv.row (h : Mv F w w') {g : Nat} {o : Obj} (hc : w.heap[g]? = some o) (hF : ¬ F g) : w'.heap[g]? = some o := by
  rw [h.block g (row_lt hc) hF]; exact hc
theorem owns_mv {B e s n : Nat} {v : Value} {x : List Value} (h : w.ownsRow B e s v n x) (hm : Mv F w w') (hk : ∀ i, v.ownBlock = some i → ¬ F i) : w'.ownsRow B e s v n x := by
  refine ⟨h.1, h.2.imp id ?_⟩
  rintro ⟨g, cap, cur, rfl, hb, hg, r⟩
  exact ⟨g, cap, cur, rfl, hb, hm.row hg (hk g rfl), r⟩
end

/-! A map from integers to values. -/
def heldElem (v : Value) : Option (DataW Value × List MemPlace) := some (.held v, [])
/-- D says f. -/
def Says (D : DataW Value) (f : Int → Option Value) : Prop :=
  ∀ x, (∀ v, f x = some v → has D (.int .i64 x) = true ∧ ∀ zd, D.atKey (.int .i64 x) zd = .held v) ∧ (f x = none → has D (.int .i64 x) = false)
/-- Block b is the map f, of at most n entries. -/
def Mp (P : Program) (k : TypeId) (w : World) (b n : Nat) (f : Int → Option Value) : Prop := ∃ D, w.ownsMap P k heldElem b n D ∧ Says D f
/-- A range over it is under way: which keys are still to come. -/
def Rg (P : Program) (k : TypeId) (w : World) (b r n : Nat) (f : Int → Option Value) (left : Int → Bool) (cnt : Nat) : Prop :=
  ∃ D lf, w.ranges P k heldElem b r n D lf cnt ∧ Says D f ∧ ∀ x, left x = lf (.int .i64 x)
def put (f : Int → Option Value) (x : Int) (v : Value) : Int → Option Value := fun y => if y = x then some v else f y
def del (f : Int → Option Value) (x : Int) : Int → Option Value := fun y => if y = x then none else f y
def noKeys : Int → Option Value := fun _ => none

section
variable {P : Program} {k : TypeId} {w w' : World} {b r n : Nat} {f : Int → Option Value} {left : Int → Bool} {cnt : Nat}
theorem isKey_int (q : IntKind) (x : Int) : WideAt.IsKeyLit (.int q x) := trivial
theorem Says.none : Says (.map []) noKeys := fun x => ⟨fun v h => (by cases h), fun _ => rfl⟩
theorem lit_ne {x y : Int} (h : y ≠ x) : Lit.int .i64 y ≠ Lit.int .i64 x := by intro e; cases e; exact h rfl
theorem Says.put {D : DataW Value} (h : Says D f) (hD : IsMap D) (x : Int) (v : Value) : Says (D.put (.int .i64 x) (.held v)) (put f x v) := by
  intro y
  unfold Go.Inc.put
  by_cases hy : y = x
  · subst hy
    rw [if_pos rfl]
    refine ⟨fun u hu => ?_, fun hu => (by cases hu)⟩
    cases hu
    exact ⟨has_put_same hD (isKey_int _ _) _, fun zd => atKey_put_same hD (isKey_int _ _) _ zd⟩
  · rw [if_neg hy]
    refine ⟨fun u hu => ?_, fun hu => ?_⟩
    · have := (h y).1 u hu
      exact ⟨by rw [has_put_other (lit_ne hy)]; exact this.1, fun zd => by rw [atKey_put_other (lit_ne hy)]; exact this.2 zd⟩
    · rw [has_put_other (lit_ne hy)]; exact (h y).2 hu
theorem Says.del {D : DataW Value} (h : Says D f) (x : Int) : Says (D.del (.int .i64 x)) (del f x) := by
  intro y
  unfold Go.Inc.del
  by_cases hy : y = x
  · subst hy
    rw [if_pos rfl]
    exact ⟨fun u hu => (by cases hu), fun _ => has_del_same⟩
  · rw [if_neg hy]
    refine ⟨fun u hu => ?_, fun hu => ?_⟩
    · have := (h y).1 u hu
      exact ⟨by rw [has_del_other (lit_ne hy)]; exact this.1, fun zd => by rw [atKey_del_other (lit_ne hy)]; exact this.2 zd⟩
    · rw [has_del_other (lit_ne hy)]; exact (h y).2 hu
theorem Says.at {D : DataW Value} (h : Says D f) (x : Int) (z : Value) : D.atKey (.int .i64 x) (.held z) = .held ((f x).getD z) := by
  cases hf : f x with
  | none => exact atKey_of_not_has ((h x).2 hf) _
  | some v => exact ((h x).1 v hf).2 _

theorem Mp.lt (h : Mp P k w b n f) : b < w.heap.size := let ⟨_, h, _⟩ := h; h.lt
theorem Mp.mono (h : Mp P k w b n f) {n' : Nat} (hn : n ≤ n') : Mp P k w b n' f := let ⟨D, h, s⟩ := h; ⟨D, h.mono hn, s⟩
theorem owns_same {D : DataW Value} {R : Value → Option (DataW Value × List MemPlace)} (h : w.ownsMap P k R b n D) (hb : w'.heap[b]? = w.heap[b]?) : w'.ownsMap P k R b n D := by
  obtain ⟨es, clock, h1, r⟩ := h
  exact ⟨es, clock, hb.trans h1, r⟩
theorem Mp.same (h : Mp P k w b n f) (hb : w'.heap[b]? = w.heap[b]?) : Mp P k w' b n f := let ⟨D, h, s⟩ := h; ⟨D, owns_same h hb, s⟩
theorem Mp.mv {F : Nat → Prop} (h : Mp P k w b n f) (hm : Mv F w w') (hb : ¬ F b) : Mp P k w' b n f := h.same (hm.block b h.lt hb)
theorem Mp.below (h : Mp P k w b n f) (hb : Below w.heap.size w w') : Mp P k w' b n f := h.same (hb.block b h.lt)
theorem Mp.grown {o : Option Nat} (h : Mp P k w b n f) (hg : w.grownBy w' o) (hr : o ≠ some b) : Mp P k w' b n f := h.same (hg.block b h.lt hr.symm)
theorem Mp.isObj (h : Mp P k w b n f) : ∃ es clock, w.heap[b]? = some (.map es clock) := by
  obtain ⟨D, ⟨es, clock, hb, _⟩, _⟩ := h
  exact ⟨es, clock, hb⟩
theorem Rg.same (h : Rg P k w b r n f left cnt) (hb : w'.heap[b]? = w.heap[b]?) (hr : w'.heap[r]? = w.heap[r]?) : Rg P k w' b r n f left cnt := by
  obtain ⟨D, lf, ⟨es, clock, since, seen, c0, h1, h2, h3, h4, h5, rest⟩, s⟩ := h
  exact ⟨D, lf, ⟨es, clock, since, seen, c0, hb.trans h1, h2, h3, h4, hr.trans h5, rest⟩, s⟩
theorem Rg.mp (h : Rg P k w b r n f left cnt) : Mp P k w b n f := let ⟨D, _, h, s, _⟩ := h; ⟨D, h.owns, s⟩
theorem Rg.lt (h : Rg P k w b r n f left cnt) : r < w.heap.size := let ⟨_, _, h, _⟩ := h; h.lt
theorem Rg.left_eq (h : Rg P k w b r n f left cnt) : w.rangeLeft b r = cnt := let ⟨_, _, h, _⟩ := h; h.left_eq
theorem Rg.isObj (h : Rg P k w b r n f left cnt) : ∃ s e c, w.heap[r]? = some (.mapIter (some b) s e c) := by
  obtain ⟨D, lf, ⟨es, clock, since, seen, c0, _, _, _, _, h5, _⟩, _⟩ := h
  exact ⟨_, _, _, h5⟩
theorem Rg.known (h : Rg P k w b r n f left cnt) (x : Int) (hx : left x = true) : (f x).isSome = true := by
  obtain ⟨D, lf, hr, hs, hl⟩ := h
  rw [hl x] at hx
  cases hf : f x with
  | some v => rfl
  | none =>
    exfalso
    have h0 := (hs x).2 hf
    obtain ⟨es, clock, since, seen, c0, hb, F, hsz, rfl, _, _, _, hl1, hl2, _⟩ := hr
    obtain ⟨e, he, hek⟩ := hl2 _ hx
    rw [Maps.has_eq] at h0
    have : (List.foldr DataW.insert [] (List.map (WideElems.rg P k heldElem) es.toList)).any (fun p => p.1.sameKey (.int .i64 x)) = true := by
      rw [List.any_eq_true]
      exact ⟨WideElems.rg P k heldElem e, mem_sorted.2 (List.mem_map.2 ⟨e, he, rfl⟩), by rw [hek]; exact WideAt.sameKey_self (isKey_int _ _)⟩
    rw [this] at h0
    cases h0

/-- A map that the call makes. -/
theorem Mp.made (w : World) (P : Program) (k : TypeId) : Mp P k (w.alloc (.map #[] 0)) w.heap.size 0 noKeys := ⟨.map [], World.ownsMap_made w P k heldElem, Says.none⟩
end

section
variable {P : Program} (w : World) {ops : Array Oper} {rest : List Oper} {o : Oper} {a : Act} {Q : Exit → Act → World → Prop}
/-- 'm[k]'. -/
theorem wpList_look (hg : o.guard = none) (m x : Operand) (t : TypeId) (hop : o.op = Op.lookup t m x false) (k e : TypeId) (hk : P.underlying k = some (.int .i64)) (ht : P.underlying t = some (.map k e)) (z : Value) (hz : (P.info? e).bind (·.zero) = some z)
    (b n : Nat) (f : Int → Option Value) (hm : a.eval m = .map (some b)) (hown : Mp P k w b n f) (y : Int) (hx : a.eval x = .int .i64 y) (hw : -9223372036854775808 ≤ y ∧ y ≤ 9223372036854775807)
    (hK : wpList P ops Q rest (a.put o.dst ((f y).getD z)) w) : wpList P ops Q (o :: rest) a w := by
  obtain ⟨D, hD, hs⟩ := hown
  refine wpList_plain hg fun K' hK' => ?_
  have hz' : (zeroValue e).run P w = .ok z w := by
    obtain ⟨i, hi, hz⟩ := Option.bind_eq_some_iff.1 hz
    simp [zeroValue, typeInfo, hi, hz]
  obtain ⟨v, ps, hrun, hv⟩ := hD.lookup (int_keyed hk) ht hz' (zd := .held z) (zp := []) rfl (keyOf_int_mk hk (a := y) (Go.WalkArith.wf_i64 hw))
  rw [hs.at] at hv
  unfold heldElem at hv
  simp only [Option.some.injEq, Prod.mk.injEq, DataW.held.injEq] at hv
  obtain ⟨rfl, _⟩ := hv
  unfold Oper.wp
  simp [execOp, hop, hm, hx, hrun, Result.andThen]
  exact hK' _ _ hK
/-- 'm[k] = v'. -/
theorem wpList_put (hg : o.guard = none) (m x v : Operand) (t : TypeId) (hop : o.op = Op.mapUpdate t m x v) (k e : TypeId) (hk : P.underlying k = some (.int .i64)) (ht : P.underlying t = some (.map k e))
    (b n : Nat) (f : Int → Option Value) (hm : a.eval m = .map (some b)) (hown : Mp P k w b n f) (hn : n < maxLen) (y : Int) (hx : a.eval x = .int .i64 y) (hw : -9223372036854775808 ≤ y ∧ y ≤ 9223372036854775807) (u : Value) (hv : a.eval v = u)
    (hK : ∀ w', Mp P k w' b (n + 1) (put f y u) → w.grownBy w' (some b) → wpList P ops Q rest (a.put o.dst undef) w') : wpList P ops Q (o :: rest) a w := by
  obtain ⟨D, hD, hs⟩ := hown
  exact wpList_mapUpdate_own w hg m x v t hop k e (int_keyed hk) ht heldElem b n D hm hD hn _ _ _ hx hv (keyOf_int_mk hk (a := y) (Go.WalkArith.wf_i64 hw)) (.held u) [] rfl
    fun w' h hg => hK w' ⟨_, h, hs.put hD.isMap y u⟩ hg
/-- 'delete(m, k)'. -/
theorem wpList_del (hg : o.guard = none) (m x : Operand) (t k : TypeId) (hop : o.op = Op.call { callee := Callee.builtin Builtin.delete, args := #[m, x], argTypes := #[t, k] }) (e : TypeId) (hk : P.underlying k = some (.int .i64)) (ht : P.underlying t = some (.map k e))
    (b n : Nat) (f : Int → Option Value) (hm : a.eval m = .map (some b)) (hown : Mp P k w b n f) (y : Int) (hx : a.eval x = .int .i64 y) (hw : -9223372036854775808 ≤ y ∧ y ≤ 9223372036854775807)
    (hK : ∀ w', Mp P k w' b n (del f y) → w.grownBy w' (some b) → wpList P ops Q rest (a.put o.dst (.tuple #[])) w') : wpList P ops Q (o :: rest) a w := by
  obtain ⟨D, hD, hs⟩ := hown
  exact wpList_delete_own w hg m x t k hop e (int_keyed hk) ht heldElem b n D hm hD _ _ hx (keyOf_int_mk hk (a := y) (Go.WalkArith.wf_i64 hw))
    fun w' h ht => hK w' ⟨_, h, hs.del y⟩ ht.grown
/-- 'clear(m)'. -/
theorem wpList_clear (hg : o.guard = none) (m : Operand) (t : TypeId) (hop : o.op = Op.call { callee := Callee.builtin Builtin.clear, args := #[m], argTypes := #[t] }) (k e : TypeId) (ht : P.underlying t = some (.map k e))
    (b n : Nat) (f : Int → Option Value) (hm : a.eval m = .map (some b)) (hown : Mp P k w b n f)
    (hK : ∀ w', Mp P k w' b 0 noKeys → w.grownBy w' (some b) → wpList P ops Q rest (a.put o.dst (.tuple #[])) w') : wpList P ops Q (o :: rest) a w := by
  obtain ⟨D, hD, hs⟩ := hown
  obtain ⟨es, clock, hb, F, _, _⟩ := hD
  refine wpList_plain hg fun K' hK' => ?_
  have hrun : (Builtin.clear_ #[t] o.type #[.map (some b)]).run P w = .ok (.tuple #[]) (ChangeMaps.setBlock w b (.map #[] clock)) := by
    simp [Builtin.clear_, run_underlying ht, MapKept.run_getObj_map hb, setObj, Sem.run, Result.andThen, ChangeMaps.setBlock, hb]
  unfold Oper.wp
  simp [execOp, hop, resolve, invoke, builtin, hm, hrun, Result.andThen]
  refine hK' _ _ (hK _ ⟨.map [], ⟨#[], clock, ChangeMaps.heap_setBlock_same hb _, ⟨by simp, ?_, by simp⟩, Nat.le_refl _, rfl⟩, Says.none⟩ ⟨rfl, rfl, rfl, by simp [ChangeMaps.setBlock], fun i _ hi => ChangeMaps.heap_setBlock_other hb _ (fun e => hi (by rw [e]))⟩)
  exact MapKept.stamped_empty clock
/-- 'range m'. -/
theorem wpList_rangeI (hg : o.guard = none) (m : Operand) (t : TypeId) (hop : o.op = Op.range t m) (k e : TypeId) (hk : P.underlying k = some (.int .i64)) (ht : P.underlying t = some (.map k e))
    (b n : Nat) (f : Int → Option Value) (hm : a.eval m = .map (some b)) (hown : Mp P k w b n f)
    (hK : ∀ w' cnt, Rg P k w' b w.heap.size n f (fun x => (f x).isSome) cnt → Below w.heap.size w w' → w'.heap.size = w.heap.size + 1 → wpList P ops Q rest (a.put o.dst (.pointer (some ⟨w.heap.size, 0, none⟩))) w') : wpList P ops Q (o :: rest) a w := by
  obtain ⟨D, hD, hs⟩ := hown
  refine wpList_range_own w hg m t hop k e (int_keyed hk) ht heldElem b n D hm hD fun w' hr hg hsz => hK w' _ ⟨D, _, hr, hs, fun x => ?_⟩ ⟨hg.os, hg.tape, hg.output, hg.size, fun i hi => hg.block i hi (by simp)⟩ hsz
  show (f x).isSome = _
  cases hf : f x with
  | none => exact ((hs x).2 hf).symm
  | some v => exact ((hs x).1 v hf).1.symm
/-- The step of a range. -/
theorem wpList_nextI (hg : o.guard = none) (it : Operand) (hop : o.op = Op.next it false) (k : TypeId) (hk : P.underlying k = some (.int .i64)) (b r n : Nat) (f : Int → Option Value) (left : Int → Bool) (cnt : Nat)
    (hit : a.eval it = .pointer (some ⟨r, 0, none⟩)) (h : Rg P k w b r n f left cnt)
    (hDone : (∀ x, left x = false) → wpList P ops Q rest (a.put o.dst (.tuple #[.bool false])) w)
    (hMore : ∀ (x : Int) (v : Value) (w' : World) (cnt' : Nat), (-9223372036854775808 ≤ x ∧ x ≤ 9223372036854775807) → left x = true → f x = some v → Rg P k w' b r n f (fun z => left z && !decide (z = x)) cnt' → cnt' < cnt →
      w.grownBy w' (some r) → w'.heap.size = w.heap.size → (Instr.entry (.pointer (some ⟨r, 0, none⟩))).run P w' = .ok (.tuple #[.int .i64 x, v]) w' → wpList P ops Q rest (a.put o.dst (.tuple #[.bool true, .int .i64 x, v])) w') :
    wpList P ops Q (o :: rest) a w := by
  obtain ⟨D, lf, hr, hs, hl⟩ := h
  refine wpList_next_ranges w (α := Int) (β := Value) hg it hop k (int_keyed hk) heldElem (Value.int .i64) id (fun key kl hkey => ?_) (fun v y _ => ⟨v, rfl⟩) b r n D lf cnt hit hr (fun _ h0 => hDone fun x => by rw [hl x]; exact h0 _) ?_
  · obtain ⟨x, rfl, _⟩ := Maps.keyOf_int_inv hk hkey
    exact ⟨x, rfl⟩
  · intro x v kl y w' cnt' hkey hlk hv hat hrg hlt hgr hsz hen
    obtain ⟨x', ex, rfl, hwx⟩ := Maps.keyOf_int_inv hk hkey
    cases ex
    have hb := bounds_i64 hwx
    have hlx : left x = true := by rw [hl x]; exact hlk
    have hfx : f x = some v := by
      have hk := Rg.known ⟨D, lf, hr, hs, hl⟩ x hlx
      cases hf : f x with
      | none => rw [hf] at hk; cases hk
      | some u =>
        have h1 := ((hs x).1 u hf).2 (.held u)
        rw [hat] at h1
        unfold heldElem at hv
        simp only [id, Option.some.injEq] at hv
        subst hv
        simp only [DataW.held.injEq] at h1
        rw [h1]
    refine hMore x v w' cnt' hb hlx hfx ⟨D, _, hrg, hs, fun z => ?_⟩ hlt hgr hsz hen
    show (left z && !decide (z = x)) = _
    rw [hl z]
    congr 2
    by_cases hzx : z = x
    · subst hzx
      rw [WideAt.sameKey_self (isKey_int _ _)]
      simp
    · rw [Maps.sameKey_ne (lit_ne hzx)]
      simp [hzx]
end
end Go.Inc
namespace Go.Inc
open Go.RowKit

theorem snocMem {α : Type} {l : List α} {z i : α} : i ∈ l ++ [z] ↔ i ∈ l ∨ i = z := by simp
theorem snocNodup {l : List Int} {z : Int} : (l ++ [z]).Nodup ↔ l.Nodup ∧ z ∉ l := by
  rw [List.nodup_append]
  constructor
  · rintro ⟨h1, _, h3⟩
    exact ⟨h1, fun h => h3 z h z (by simp) rfl⟩
  · rintro ⟨h1, h2⟩
    refine ⟨h1, by simp, fun a ha b hb e => ?_⟩
    simp at hb
    subst hb; subst e
    exact h2 ha
theorem nodupTake {zs : List Int} {k : Nat} (h : ¬ (zs.take k).Nodup) : ¬ zs.Nodup := fun hn => h (hn.sublist (List.take_sublist _ _))
theorem memGetD {α : Type} {zs : List α} {d : α} {k : Nat} (h : k < zs.length) : zs.getD k d ∈ zs := by
  rw [List.getD_eq_getElem?_getD, List.getElem?_eq_getElem h]
  exact List.getElem_mem h
theorem takeSnoc {α : Type} {bs : List α} {d : α} {k : Nat} (h : k < bs.length) : bs.take (k + 1) = bs.take k ++ [bs.getD k d] := by
  rw [List.take_succ_eq_append_getElem h, List.getD_eq_getElem?_getD, List.getElem?_eq_getElem h]; rfl
theorem siCell {okz : Nat → Prop} {w : World} {a : Option Addr} {zs : List Int} (h : Si okz w a zs) {k : Nat} (hk : k < zs.length) : ∃ b o, a = some ⟨b, o, none⟩ ∧ w.cell? ⟨b, o + k, none⟩ = some (.int .i64 (zs.getD k 0)) := by
  rcases h with h | ⟨b, o, h, _, hc⟩
  · rw [h] at hk; simp at hk
  · exact ⟨b, o, h, hc k hk⟩
theorem siMv {F : Nat → Prop} {ok : Nat → Prop} {w w' : World} {p : Option Addr} {zs : List Int} (h : Si ok w p zs) (hm : Mv F w w') (hk : ∀ i, ok i → ¬ F i) : Si ok w' p zs :=
  h.kept fun i hi hlt => hm.block i hlt (hk i hi)
theorem ownBase {W : World} {B e s n : Nat} {v : Value} {x : List Value} (h : W.ownsRow B e s v n x) {g : Nat} (hg : v.ownBlock = some g) : B ≤ g := by
  rcases h.2 with ⟨rfl, _⟩ | ⟨g', cap, cur, rfl, hb, _⟩
  · simp [Value.ownBlock] at hg
  · obtain rfl : g' = g := by simpa [Value.ownBlock] using hg
    exact hb
theorem ownSelf {W : World} {B e s n c k : Nat} {g : Nat} {x : List Value} (h : W.ownsRow B e s (.slice (some ⟨g, 0, none⟩) n c) k x) : W.ownsRow g e s (.slice (some ⟨g, 0, none⟩) n c) k x :=
  ⟨h.1, h.2.imp id fun ⟨g', cap, cur, h1, _, r⟩ => ⟨g', cap, cur, h1, (by cases h1; exact Nat.le_refl _), r⟩⟩
theorem allocBelow (w : World) (o : Obj) : Below w.heap.size w (w.alloc o) := (Below.refl _ _).alloc (Nat.le_refl _) _
theorem belowDrew (w : World) (n : Nat) : Below w.heap.size w (w.drewN n) := ⟨rfl, rfl, rfl, Nat.le_refl _, fun _ _ => rfl⟩
theorem mvSet {F : Nat → Prop} {a w : World} (h : Mv F a w) {g q : Nat} (hg : F g) (u : Value) : Mv F a (w.setCell ⟨g, q, none⟩ u) :=
  h.trans' ⟨rfl, rfl, rfl, by simp [World.setCell], fun i _ hn => Below.heap_setCell _ _ _ _ (fun e => hn e)⟩ fun i _ (hf : i = g) => by subst hf; exact hg
theorem siOne (w : World) (z : Int) (T : TypeId) : Si (fun b => b = w.heap.size) (w.alloc (.cells #[.int .i64 z] T)) (some ⟨w.heap.size, 0, none⟩) [z] :=
  .inr ⟨_, _, rfl, rfl, fun i hi => by
    have h0 : i = 0 := by simp at hi; omega
    subst h0
    rw [cell_of_row _ w.heap.size _ _ _ _ (heap_alloc_new w _)]; rfl⟩
theorem newCells (w : World) (l : List Value) (T : TypeId) : ∀ j u, l[j]? = some u → (w.alloc (.cells l.toArray T)).cell? ((⟨w.heap.size, 0, none⟩ : Addr).add j) = some u := by
  intro j u hu
  rw [Addr.add_lit, cell_of_row _ _ _ _ _ _ (heap_alloc_new w _)]
  simpa using hu
/-- Numbers in a row of the call's own: integers. -/
def zvals (l : List Int) : List Value := l.map fun x => Value.int .i64 x
theorem zvals_len (l : List Int) : (zvals l).length = l.length := by simp [zvals]
theorem zvals_app (l l' : List Int) : zvals (l ++ l') = zvals l ++ zvals l' := by simp [zvals]
theorem zvals_one (l : List Int) : ∀ u ∈ zvals l, u.oneCell' = true := by
  intro u hu
  obtain ⟨_, _, rfl⟩ := List.mem_map.1 hu
  rfl
theorem zvals_get {l : List Int} {i : Nat} (h : i < l.length) : (zvals l)[i]? = some (.int .i64 (l.getD i 0)) := by
  rw [List.getD_eq_getElem?_getD, List.getElem?_eq_getElem h]
  simp [zvals, h]
/-- What it looks like. -/
theorem ownedZ {W : World} {B e n : Nat} {v : Value} {l : List Int} (h : W.ownsRow B e 1 v n (zvals l)) : ∃ a c, v = .slice a l.length c ∧ n = l.length ∧ Si (fun b => B ≤ b) W a l ∧ l.length ≤ c ∧ c ≤ maxLen ∧ (a = none → c = 0) := by
  have hn : n = l.length := by have := h.1; rw [zvals_len] at this; omega
  subst hn
  rcases h.2 with ⟨rfl, h0⟩ | ⟨g, cap, cur, rfl, hb, hg, hnc, hm, hcs, ht⟩
  · exact ⟨none, 0, by rw [h0], rfl, .inl (List.eq_nil_of_length_eq_zero h0), by omega, Nat.zero_le _, fun _ => rfl⟩
  · refine ⟨_, cap, rfl, rfl, .inr ⟨g, 0, rfl, hb, fun i hi => ?_⟩, hnc, hm, fun h => by cases h⟩
    have hc := h.cells (g := g) rfl i _ (zvals_get hi)
    rwa [Addr.add_lit] at hc
end Go.Inc
