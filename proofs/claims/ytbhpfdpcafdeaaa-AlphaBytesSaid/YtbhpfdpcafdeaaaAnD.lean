/- CONTRACTS (alpha, as it landed): a table of how often each symbol is. (PLAIN FACTS: which symbols there are by how often each is; the row of a table's variable. Laws: a variable that is made of a value.) -/
import Derived.Test.YtbhpfdpcafdeaaaAnB
import Derived.Great.FillDense
import Derived.Test.YtbhpfdpcafdeaaaNx
import Derived.BigRegion
namespace Go.Inc
open Go.RowKit
/-- The symbols below n that are there. -/
def syO (L : List Nat) : Nat → List Nat
  | 0 => []
  | n + 1 => if 0 < L.getD n 0 then syO L n ++ [n] else syO L n
def ctO (L : List Nat) (n : Nat) : List Nat := (syO L n).map fun i => L.getD i 0
theorem syO_in {L : List Nat} {n : Nat} (h : 0 < L.getD n 0) : syO L (n + 1) = syO L n ++ [n] := by
  show (if _ then _ else _) = _
  rw [if_pos h]
theorem syO_out {L : List Nat} {n : Nat} (h : ¬ 0 < L.getD n 0) : syO L (n + 1) = syO L n := by
  show (if _ then _ else _) = _
  rw [if_neg h]
theorem ctO_in {L : List Nat} {n : Nat} (h : 0 < L.getD n 0) : ctO L (n + 1) = ctO L n ++ [L.getD n 0] := by
  unfold ctO
  rw [syO_in h, List.map_append]; rfl
theorem ctO_out {L : List Nat} {n : Nat} (h : ¬ 0 < L.getD n 0) : ctO L (n + 1) = ctO L n := by
  unfold ctO
  rw [syO_out h]
theorem ctO_len (L : List Nat) (n : Nat) : (ctO L n).length = (syO L n).length := by simp [ctO]
theorem syO_len (L : List Nat) : ∀ n, (syO L n).length ≤ n
  | 0 => Nat.le_refl _
  | n + 1 => by
    have := syO_len L n
    by_cases h : 0 < L.getD n 0
    · rw [syO_in h, List.length_append]; simp; omega
    · rw [syO_out h]; omega
theorem syO_mem (L : List Nat) : ∀ n s, s ∈ syO L n ↔ s < n ∧ 0 < L.getD s 0
  | 0, s => by constructor <;> intro h <;> simp [syO] at h
  | n + 1, s => by
    by_cases h : 0 < L.getD n 0
    · rw [syO_in h, List.mem_append, syO_mem L n, List.mem_singleton]
      constructor
      · rintro (h1 | rfl)
        · exact ⟨by omega, h1.2⟩
        · exact ⟨by omega, h⟩
      · rintro ⟨h1, h2⟩
        by_cases e : s = n
        · exact .inr e
        · exact .inl ⟨by omega, h2⟩
    · rw [syO_out h, syO_mem L n]
      constructor
      · rintro ⟨h1, h2⟩; exact ⟨by omega, h2⟩
      · rintro ⟨h1, h2⟩
        by_cases e : s = n
        · subst e; exact absurd h2 h
        · exact ⟨by omega, h2⟩
theorem ctO_sum (L : List Nat) (s : Nat) : ∀ n, s ≤ n → (ctO L s).sum ≤ (ctO L n).sum
  | 0, h => by obtain rfl : s = 0 := by omega
               exact Nat.le_refl _
  | n + 1, h => by
    by_cases e : s = n + 1
    · subst e; exact Nat.le_refl _
    · have := ctO_sum L s n (by omega)
      by_cases hy : 0 < L.getD n 0
      · rw [ctO_in hy, List.sum_append]; omega
      · rw [ctO_out hy]; exact this
theorem syO_rise (L : List Nat) : ∀ n, (syO L n).Pairwise (· < ·)
  | 0 => List.Pairwise.nil
  | n + 1 => by
    by_cases h : 0 < L.getD n 0
    · rw [syO_in h, List.pairwise_append]
      refine ⟨syO_rise L n, List.pairwise_singleton _ _, fun a ha b hb => ?_⟩
      obtain rfl : b = n := by simpa using hb
      exact ((syO_mem L b a).1 ha).1
    · rw [syO_out h]; exact syO_rise L n
/-- Lists that rise and have the same members are the same. -/
theorem rise_ext : ∀ {a b : List Nat}, a.Pairwise (· < ·) → b.Pairwise (· < ·) → (∀ x, x ∈ a ↔ x ∈ b) → a = b
  | [], [], _, _, _ => rfl
  | [], y :: b, _, _, h => absurd ((h y).2 (by simp)) (by simp)
  | x :: a, [], _, _, h => absurd ((h x).1 (by simp)) (by simp)
  | x :: a, y :: b, ha, hb, h => by
    rw [List.pairwise_cons] at ha hb
    have hxy : x = y := by
      have h1 := (h x).1 (by simp)
      have h2 := (h y).2 (by simp)
      rcases List.mem_cons.1 h1 with e | h1
      · exact e
      · rcases List.mem_cons.1 h2 with e | h2
        · exact e.symm
        · have := hb.1 x h1; have := ha.1 y h2; omega
    subst hxy
    rw [rise_ext ha.2 hb.2 fun z => ?_]
    constructor
    · intro hz
      rcases List.mem_cons.1 ((h z).1 (List.mem_cons_of_mem _ hz)) with e | h1
      · have := ha.1 z hz; omega
      · exact h1
    · intro hz
      rcases List.mem_cons.1 ((h z).2 (List.mem_cons_of_mem _ hz)) with e | h1
      · have := hb.1 z hz; omega
      · exact h1
/-- The cells of a table's variable. -/
structure RowT (cs : Array Value) (O K B : Nat → Nat) (v : Value) : Prop where
  size : cs.size = 776
  often : ∀ i, i < 258 → cs[i]? = some (.int .i64 ((O i : Nat) : Int))
  codes : ∀ i, i < 258 → cs[258 + i]? = some (.int .i64 ((K i : Nat) : Int))
  syms : cs[516]? = some v
  below : ∀ i, i < 259 → cs[517 + i]? = some (.int .i64 ((B i : Nat) : Int))
theorem RowT.tbF {w : World} {b T : Nat} {cs : Array Value} {fr : Nat × Nat} {O K B : Nat → Nat} {v : Value} (h : RowT cs O K B v) (hw : w.heap[b]? = some (.cells cs T fr)) : TbF w b O K B v :=
  ⟨fun i hi => by rw [cell_of_row w b _ cs T fr hw]; exact h.often i hi, fun i hi => by rw [cell_of_row w b _ cs T fr hw]; exact h.codes i hi, by rw [cell_of_row w b _ cs T fr hw]; exact h.syms, fun i hi => by rw [cell_of_row w b _ cs T fr hw]; exact h.below i hi⟩
theorem setIf_get (cs : Array Value) (i j : Nat) (u : Value) (hi : i < cs.size) : (cs.setIfInBounds i u)[j]? = if i = j then some u else cs[j]? := by
  rw [Array.getElem?_setIfInBounds]
  by_cases h : i = j
  · rw [if_pos h, if_pos hi, if_pos h]
  · rw [if_neg h, if_neg h]
theorem RowT.setK {cs : Array Value} {O K B : Nat → Nat} {v : Value} (h : RowT cs O K B v) {s : Nat} (hs : s < 258) (k : Nat) : RowT (cs.setIfInBounds (258 + s) (.int .i64 (k : Int))) O (fun i => if i = s then k else K i) B v := by
  have hz := h.size
  refine ⟨by rw [Array.size_setIfInBounds]; exact hz, fun i hi => ?_, fun i hi => ?_, ?_, fun i hi => ?_⟩
  · rw [setIf_get _ _ _ _ (by omega), if_neg (by omega)]; exact h.often i hi
  · rw [setIf_get _ _ _ _ (by omega)]
    by_cases e : i = s
    · subst e; rw [if_pos rfl, if_pos rfl]
    · rw [if_neg (by omega), if_neg e]; exact h.codes i hi
  · rw [setIf_get _ _ _ _ (by omega), if_neg (by omega)]; exact h.syms
  · rw [setIf_get _ _ _ _ (by omega), if_neg (by omega)]; exact h.below i hi
theorem RowT.setB {cs : Array Value} {O K B : Nat → Nat} {v : Value} (h : RowT cs O K B v) {s : Nat} (hs : s < 259) (k : Nat) : RowT (cs.setIfInBounds (517 + s) (.int .i64 (k : Int))) O K (fun i => if i = s then k else B i) v := by
  have hz := h.size
  refine ⟨by rw [Array.size_setIfInBounds]; exact hz, fun i hi => ?_, fun i hi => ?_, ?_, fun i hi => ?_⟩
  · rw [setIf_get _ _ _ _ (by omega), if_neg (by omega)]; exact h.often i hi
  · rw [setIf_get _ _ _ _ (by omega), if_neg (by omega)]; exact h.codes i hi
  · rw [setIf_get _ _ _ _ (by omega), if_neg (by omega)]; exact h.syms
  · rw [setIf_get _ _ _ _ (by omega)]
    by_cases e : i = s
    · subst e; rw [if_pos rfl, if_pos rfl]
    · rw [if_neg (by omega), if_neg e]; exact h.below i hi
theorem RowT.setV {cs : Array Value} {O K B : Nat → Nat} {v : Value} (h : RowT cs O K B v) (u : Value) : RowT (cs.setIfInBounds 516 u) O K B u := by
  have hz := h.size
  refine ⟨by rw [Array.size_setIfInBounds]; exact hz, fun i hi => ?_, fun i hi => ?_, ?_, fun i hi => ?_⟩
  · rw [setIf_get _ _ _ _ (by omega), if_neg (by omega)]; exact h.often i hi
  · rw [setIf_get _ _ _ _ (by omega), if_neg (by omega)]; exact h.codes i hi
  · rw [setIf_get _ _ _ _ (by omega), if_pos rfl]
  · rw [setIf_get _ _ _ _ (by omega), if_neg (by omega)]; exact h.below i hi
/-- A variable made of a value, the world behind it a variable. -/
theorem wpList_box_own {P : Program} {ops : Array Oper} {rest : List Oper} {o : Oper} {a : Act} {w : World} {Q : Exit → Act → World → Prop} (hgd : o.guard = none) (t : TypeId) (x : Operand) (ho : o.op = .box t x)
    (cs : Array Value) (hx : a.eval x = .agg cs)
    (h : ∀ w', w'.heap[w.heap.size]? = some (.cells cs t (0, 0)) → Below w.heap.size w w' → wpList P ops Q rest (a.put o.dst (.pointer (some ⟨w.heap.size, 0, none⟩))) w') : wpList P ops Q (o :: rest) a w := by
  refine wpList_plain hgd fun K hK => ?_
  unfold Oper.wp execOp
  simp only [ho, hx, Sem.run_bind, Instr.box, newVar, newRow, run_newObj_alloc, Sem.run_pure, Result.andThen_ok]
  exact hK _ _ (h _ (heap_alloc_new w _) ((Below.refl _ _).alloc (Nat.le_refl _) _))
/-- A value with one part is built, the cells said by the caller. -/
theorem wpList_build_own {P : Program} {ops : Array Oper} {rest : List Oper} {o : Oper} {a : Act} {w : World} {Q : Exit → Act → World → Prop} (hgd : o.guard = none) (t : TypeId) (x : Operand) (ho : o.op = .build t #[(0, x)])
    (u : Value) (hx : a.eval x = u) (cs : Array Value) (hb : P.built t [(0, u)] = some cs)
    (h : wpList P ops Q rest (a.put o.dst (.agg cs)) w) : wpList P ops Q (o :: rest) a w := by
  have e : (#[(0, x)].map fun ((i, x) : Nat × Operand) => (i, a.eval x)).toList = [(0, u)] := by rw [← hx]; simp
  exact wpList_build hgd t _ ho (by rw [e, hb]; rfl) (by rw [e, hb]; exact h)
/-- An array value's part by its number. -/
theorem run_index_arr {P : Program} {T e n : Nat} {i : TypeInfo} {cs : Array Value} {k : Nat} {u : Value} (hT : P.underlying T = some (.array n e)) (he : (isAgg e).run P = fun w => .ok false w) (hi : P.info? e = some i) (hs : i.size = 1) (hk : k < n) (hc : cs[k]? = some u) (w : World) :
    (Instr.index T (.agg cs) (.int .i64 (k : Int))).run P w = .ok u w := by
  have hk' : (0 : Int) ≤ (k : Int) ∧ (k : Int) < (n : Int) := ⟨by omega, by omega⟩
  simp only [Instr.index, asIntOf, Sem.run_bind, Sem.run_pure, Result.andThen_ok, run_underlying hT, if_pos hk', sizeOf, typeInfo, part, he, Int.toNat_natCast]
  simp [hi, hs, hc]
end Go.Inc
namespace Go.Proofs.Ytbhpfdpcafdeaaa
open Go.RowKit Go.Inc
/-- The cells of a table of no symbols. -/
def zeroT : Array Value := (List.replicate 516 (Value.int .i64 0) ++ [Value.slice none 0 0] ++ List.replicate 259 (Value.int .i64 0)).toArray
theorem infoTab : ((Try.prog.info? 70).bind (·.zero)).map (·.cells) = some zeroT := by kernel_rfl
theorem infoTabS : (Try.prog.info? 70).map (·.size) = some 776 := by kernel_rfl
theorem placesTab : ((match Try.prog.underlying 70 with | some (.struct fields) => fields.toList.mapM (fun f => (Try.prog.info? f.type).map fun i => (f.offset, i.size)) | _ => none) : Option (List (Nat × Nat))) = some [(0, 258), (258, 258), (516, 1), (517, 259)] := by kernel_rfl
theorem infoArr : (Try.prog.info? 66).map (·.size) = some 258 := by kernel_rfl
theorem uArr : Try.prog.underlying 66 = some (.array 258 3) := by kernel_rfl
theorem zeroT_get (k : Nat) : zeroT[k]? = if k = 516 then some (.slice none 0 0) else if k < 776 then some (.int .i64 0) else none := by
  unfold zeroT
  rw [List.getElem?_toArray, List.getElem?_append, List.getElem?_append]
  simp only [List.length_append, List.length_replicate, List.length_cons, List.length_nil, List.getElem?_replicate]
  by_cases h1 : k < 516
  · rw [if_pos (by omega), if_pos h1, if_pos h1, if_neg (by omega), if_pos (by omega)]
  · by_cases h2 : k = 516
    · subst h2; rfl
    · rw [if_neg (by omega), if_neg h2]
      by_cases h3 : k < 776
      · rw [if_pos (by omega), if_pos h3]
      · rw [if_neg (by omega), if_neg h3]
theorem zeroT_size : zeroT.size = 776 := by
  unfold zeroT
  rw [List.size_toArray, List.length_append, List.length_append, List.length_replicate, List.length_replicate]; rfl
theorem builtTab (L : List Nat) (hL : L.length = 258) : ∃ cs, Try.prog.built 70 [(0, .agg (nvals L).toArray)] = some cs ∧ RowT cs (fun i => L.getD i 0) (fun _ => 0) (fun _ => 0) (.slice none 0 0) := by
  have hp := placesTab
  have hz := infoTab
  unfold Program.built
  cases hi : Try.prog.info? 70 with
  | none => rw [hi] at hz; cases hz
  | some it =>
    rw [hi] at hz
    cases hu : Try.prog.underlying 70 with
    | none => rw [hu] at hp; cases hp
    | some d =>
      rw [hu] at hp
      cases d <;> try (cases hp; done)
      case struct fields =>
        cases hzz : it.zero with
        | none => rw [Option.bind_some, hzz] at hz; cases hz
        | some z =>
          rw [Option.bind_some, hzz] at hz
          have hz' : z.cells = zeroT := by simpa using hz
          simp only at hp
          simp only [hzz, hp, hz']
          unfold Instr.fill
          have hv : (Value.agg (nvals L).toArray).cells = (nvals L).toArray := rfl
          have hs : (nvals L).toArray.size = 258 := by rw [List.size_toArray, nvals_len, hL]
          simp only [hv, hs]
          obtain ⟨g1, g2⟩ := Go.Great.foldl_set 0 (nvals L) 0 zeroT
          have e0 : (nvals L).toArray.zipIdx.foldl (fun cs (x : Value × Nat) => cs.setIfInBounds (0 + x.2) x.1) zeroT = ((nvals L).zipIdx 0).foldl (fun cs (x : Value × Nat) => cs.setIfInBounds (0 + x.2) x.1) zeroT := by
            rw [← Array.foldl_toList]; congr 1; simp
          refine ⟨((nvals L).zipIdx 0).foldl (fun cs (x : Value × Nat) => cs.setIfInBounds (0 + x.2) x.1) zeroT, ?_, ?_⟩
          · simp only [Instr.fill, zeroT_size]
            exact congrArg some e0
          · have g : ∀ k, (((nvals L).zipIdx 0).foldl (fun cs (x : Value × Nat) => cs.setIfInBounds (0 + x.2) x.1) zeroT)[k]? = if k < 258 then (nvals L)[k]? else zeroT[k]? := fun k => by
              rw [g2 k, nvals_len, hL, zeroT_size]
              by_cases h : k < 258
              · rw [if_pos (by omega), if_pos h]; rfl
              · rw [if_neg (by omega), if_neg h]
            refine ⟨by rw [g1, zeroT_size], fun i hi => ?_, fun i hi => ?_, ?_, fun i hi => ?_⟩
            · rw [g, if_pos hi, nvals_get (by omega)]
            · rw [g, if_neg (by omega), zeroT_get, if_neg (by omega), if_pos (by omega)]; rfl
            · rw [g, if_neg (by omega), zeroT_get, if_pos rfl]
            · rw [g, if_neg (by omega), zeroT_get, if_neg (by omega), if_pos (by omega)]; rfl
theorem aggInt : (isAgg 3).run Try.prog = fun w => .ok false w := by
  funext w
  unfold isAgg
  rw [Sem.run_bind, run_underlying Try.underlying3]
  rfl
theorem index_arr {L : List Nat} {k : Nat} (hk : k < 258) (hL : L.length = 258) (w : World) : (Instr.index 66 (.agg (nvals L).toArray) (.int .i64 (k : Int))).run Try.prog w = .ok (.int .i64 ((L.getD k 0 : Nat) : Int)) w := by
  obtain ⟨i0, hi, -, hz1, -⟩ := info_parts infoIntA
  exact run_index_arr uArr aggInt hi hz1 hk (by rw [List.getElem?_toArray]; exact nvals_get (by omega)) w
end Go.Proofs.Ytbhpfdpcafdeaaa
