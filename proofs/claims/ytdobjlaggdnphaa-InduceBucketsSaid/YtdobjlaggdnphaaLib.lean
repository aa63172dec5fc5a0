/- SMALL LAWS FOR WALKS: hiding, slices of bytes in memory, rows of the call's own, what only one row may change. No program is named here. -/
import Derived.WalkKit
import Derived.Below
import Derived.WalkSpells
import Derived.Laws.CopyOwn
import Derived.Lib.AppendZeros
import Derived.Lib.SliceRun
namespace Go.Inc
open Go.RowKit

theorem hid {p : Prop} (h : p) : Hid p := h
theorem ret_u32 {a b : Nat} (h : a = b) : Ending.returned (.int .u32 (a : Int)) = .returned (.int .u32 (b : Int)) := by rw [h]
theorem ret_int {k : IntKind} {a b : Int} (h : a = b) : Ending.returned (.int k a) = .returned (.int k b) := by rw [h]
theorem ret_bool {a b : Bool} (h : a = b) : Ending.returned (.bool a) = .returned (.bool b) := by rw [h]
theorem val_int {k : IntKind} {a b : Int} (h : a = b) : Value.int k a = Value.int k b := by rw [h]
theorem val_bool {a b : Bool} (h : a = b) : Value.bool a = Value.bool b := by rw [h]

/-- A variable is made: its zero value's cells are known under a name. -/
theorem wpList_alloc {P : Program} {ops : Array Oper} {rest : List Oper} {o : Oper} {a : Act} {w : World} {Q : Exit → Act → World → Prop} (hgd : o.guard = none) (t : TypeId) (ho : o.op = .alloc t)
    (cs : Array Value) (hz : ((P.info? t).bind (·.zero)).map (·.cells) = some cs)
    (h : wpList P ops Q rest (a.put o.dst (.pointer (some ⟨w.heap.size, 0, none⟩))) (w.alloc (.cells cs t))) : wpList P ops Q (o :: rest) a w := by
  refine wpList_plain hgd fun K hK => ?_
  unfold Oper.wp
  obtain ⟨z, hz1, rfl⟩ := Option.map_eq_some_iff.1 hz
  obtain ⟨i, hi, hz2⟩ := Option.bind_eq_some_iff.1 hz1
  simp [execOp, ho, Instr.alloc, zeroValue, typeInfo, hi, hz2, newVar, newRow, Result.andThen]
  exact hK _ _ h

/-- The same, the world behind it a variable. -/
theorem wpList_alloc_own {P : Program} {ops : Array Oper} {rest : List Oper} {o : Oper} {a : Act} {w : World} {Q : Exit → Act → World → Prop} (hgd : o.guard = none) (t : TypeId) (ho : o.op = .alloc t)
    (cs : Array Value) (hz : ((P.info? t).bind (·.zero)).map (·.cells) = some cs)
    (h : ∀ w', w'.heap[w.heap.size]? = some (.cells cs t (0, 0)) → Below w.heap.size w w' → wpList P ops Q rest (a.put o.dst (.pointer (some ⟨w.heap.size, 0, none⟩))) w') : wpList P ops Q (o :: rest) a w :=
  wpList_alloc hgd t ho cs hz (h _ (heap_alloc_new w _) ((Below.refl _ _).alloc (Nat.le_refl _) _))

/-- A whole row of the call's own is written, the world behind it a variable. -/
theorem wpList_store_own {P : Program} {ops : Array Oper} {rest : List Oper} {o : Oper} {a : Act} {w : World} {Q : Exit → Act → World → Prop} (hgd : o.guard = none) (ty : TypeId) (x y : Operand) (ho : o.op = .store ty x y)
    (g : Nat) (cells : Array Value) (hx : a.eval x = .pointer (some ⟨g, 0, none⟩)) (hy : a.eval y = .agg cells)
    (t : TypeId) (old : Array Value) (hg : w.heap[g]? = some (.cells old t (0, 0))) (hi : (P.info? ty).map (·.size) = some cells.size)
    (hold : old.size = cells.size) (h1 : cells.all (·.oneCell') = true)
    (h : ∀ w', w'.heap[g]? = some (.cells cells t (0, 0)) → w.grownBy w' (some g) → wpList P ops Q rest (a.put o.dst undef) w') : wpList P ops Q (o :: rest) a w :=
  wpList_store_row hgd ty x y ho g cells hx hy t old hg hi hold h1 (h _ (setRow_heap _ _ _ _ _ _ hg) ⟨rfl, rfl, rfl, by simp, fun k _ hk => setRow_other _ _ _ _ (by rintro rfl; exact hk rfl)⟩)

/-! Lists of bytes. -/
def Bytes (bs : List Nat) : Prop := ∀ x ∈ bs, x < 256
theorem Bytes.nil : Bytes [] := fun _ h => by cases h
theorem Bytes.take {bs : List Nat} (h : Bytes bs) (k : Nat) : Bytes (bs.take k) := fun x hx => h x (List.mem_of_mem_take hx)
theorem Bytes.drop {bs : List Nat} (h : Bytes bs) (k : Nat) : Bytes (bs.drop k) := fun x hx => h x (List.mem_of_mem_drop hx)
theorem Bytes.append {a b : List Nat} (ha : Bytes a) (hb : Bytes b) : Bytes (a ++ b) := fun x hx => (List.mem_append.1 hx).elim (ha x) (hb x)
theorem Bytes.getD {bs : List Nat} (hb : Bytes bs) (k : Nat) : bs.getD k 0 < 256 := by
  rw [List.getD_eq_getElem?_getD]
  cases h : bs[k]? with
  | none => simp
  | some x => simpa using hb x (List.mem_of_getElem? h)
theorem take_snoc {bs : List Nat} {k : Nat} (h : k < bs.length) : bs.take (k + 1) = bs.take k ++ [bs.getD k 0] := by
  rw [List.take_succ_eq_append_getElem h, List.getD_eq_getElem?_getD, List.getElem?_eq_getElem h]; rfl

theorem cell_lt {w : World} {p : Addr} {v : Value} (h : w.cell? p = some v) : p.block < w.heap.size := block_lt_of_cell h

/-- A slice's address leads to these bytes, in a block that is 'ok' (an empty slice's address leads to whatever). -/
def Sl (ok : Nat → Prop) (w : World) (a : Option Addr) (bs : List Nat) : Prop :=
  bs = [] ∨ ∃ b off, a = some ⟨b, off, none⟩ ∧ ok b ∧ ∀ i, i < bs.length → w.cell? ⟨b, off + i, none⟩ = some (.int .u8 ((bs.getD i 0 : Nat) : Int))
section
variable {ok ok' : Nat → Prop} {w w' : World} {a : Option Addr} {bs : List Nat}
theorem Sl.nil (ok : Nat → Prop) (w : World) (a : Option Addr) : Sl ok w a [] := .inl rfl
theorem Sl.mono (h : Sl ok w a bs) (hk : ∀ b, ok b → b < w.heap.size → ok' b) : Sl ok' w a bs := by
  rcases h with h | ⟨b, off, ha, hb, hc⟩
  · exact .inl h
  · by_cases h0 : bs = []
    · exact .inl h0
    · exact .inr ⟨b, off, ha, hk b hb (cell_lt (hc 0 (by cases bs <;> simp_all))), hc⟩
theorem Sl.kept (h : Sl ok w a bs) (hb : ∀ b, ok b → b < w.heap.size → w'.heap[b]? = w.heap[b]?) : Sl ok w' a bs := by
  rcases h with h | ⟨b, off, rfl, hk, hc⟩
  · exact .inl h
  · by_cases h0 : bs = []
    · exact .inl h0
    · refine .inr ⟨b, off, rfl, hk, fun i hi => ?_⟩
      have h0 := hc 0 (by cases bs <;> simp_all)
      rw [← hc i hi]
      exact World.cell?_of_block (hb b hk (cell_lt h0))
theorem Sl.below (h : Sl ok w a bs) (hb : Below w.heap.size w w') : Sl ok w' a bs := h.kept fun b _ hlt => hb.block b hlt
theorem Sl.grown {r : Nat} (h : Sl ok w a bs) (hg : w.grownBy w' (some r)) (hr : ∀ b, ok b → b ≠ r) : Sl ok w' a bs :=
  h.kept fun b hk hlt => hg.block b hlt (by intro e; cases e; exact hr _ hk rfl)
theorem Sl.front (h : Sl ok w a bs) (k : Nat) : Sl ok w a (bs.take k) := by
  rcases h with rfl | ⟨b, off, rfl, hk, hc⟩
  · left; simp
  · refine .inr ⟨b, off, rfl, hk, fun i hi => ?_⟩
    simp only [List.length_take] at hi
    rw [hc i (by omega), List.getD_eq_getElem?_getD, List.getD_eq_getElem?_getD, List.getElem?_take, if_pos (by omega)]
end

/-- A list of lists of bytes, as a slice of slices. -/
structure Parts (ok : Nat → Prop) (w : World) (b o : Nat) (ps : List (List Nat)) (A : Nat → Option Addr) (C : Nat → Nat) : Prop where
  cell : ∀ i, i < ps.length → w.cell? ⟨b, o + i, none⟩ = some (.slice (A i) (ps.getD i []).length (C i))
  sl : ∀ i, i < ps.length → Sl ok w (A i) (ps.getD i [])
  cap : ∀ i, i < ps.length → (ps.getD i []).length ≤ C i ∧ C i ≤ maxLen
/-- The same, wherever it lies. -/
def Pt (ok : Nat → Prop) (w : World) (a : Option Addr) (ps : List (List Nat)) : Prop :=
  (∀ p ∈ ps, Bytes p) ∧ (ps = [] ∨ ∃ b o A C, a = some ⟨b, o, none⟩ ∧ ok b ∧ Parts ok w b o ps A C)
section
variable {ok ok' : Nat → Prop} {w w' : World} {a : Option Addr} {ps : List (List Nat)}
theorem Pt.nil (ok : Nat → Prop) (w : World) (a : Option Addr) : Pt ok w a [] := ⟨(fun _ h => by cases h), .inl rfl⟩
theorem Pt.mono (h : Pt ok w a ps) (hk : ∀ b, ok b → b < w.heap.size → ok' b) : Pt ok' w a ps := by
  refine ⟨h.1, ?_⟩
  rcases h.2 with h | ⟨b, o, A, C, ha, hb, hp⟩
  · exact .inl h
  · by_cases h0 : ps = []
    · exact .inl h0
    · exact .inr ⟨b, o, A, C, ha, hk b hb (cell_lt (hp.cell 0 (by cases ps <;> simp_all))), hp.cell, (fun i hi => (hp.sl i hi).mono hk), hp.cap⟩
theorem Pt.kept (h : Pt ok w a ps) (hb : ∀ b, ok b → b < w.heap.size → w'.heap[b]? = w.heap[b]?) : Pt ok w' a ps := by
  refine ⟨h.1, ?_⟩
  rcases h.2 with h | ⟨b, o, A, C, ha, hk, hp⟩
  · exact .inl h
  · exact .inr ⟨b, o, A, C, ha, hk, (fun i hi => by
      rw [← hp.cell i hi]; exact World.cell?_of_block (hb b hk (cell_lt (hp.cell i hi)))), (fun i hi => (hp.sl i hi).kept hb), hp.cap⟩
theorem Pt.below (h : Pt ok w a ps) (hb : Below w.heap.size w w') : Pt ok w' a ps := h.kept fun b _ hlt => hb.block b hlt
theorem Pt.grown {r : Nat} (h : Pt ok w a ps) (hg : w.grownBy w' (some r)) (hr : ∀ b, ok b → b ≠ r) : Pt ok w' a ps :=
  h.kept fun b hk hlt => hg.block b hlt (by intro e; cases e; exact hr _ hk rfl)
end

/-! What one row alone may change: 'grownBy', step by step. -/
theorem grown_refl (w : World) (r : Option Nat) : w.grownBy w r := ⟨rfl, rfl, rfl, Nat.le_refl _, fun _ _ _ => rfl⟩
theorem grown_trans {a b c : World} {r : Option Nat} (h : a.grownBy b r) (k : b.grownBy c r) : a.grownBy c r :=
  ⟨k.os.trans h.os, k.tape.trans h.tape, k.output.trans h.output, Nat.le_trans h.size k.size,
    fun i hi hr => (k.block i (Nat.lt_of_lt_of_le hi h.size) hr).trans (h.block i hi hr)⟩
theorem grown_below {a b c : World} {r : Option Nat} (h : a.grownBy b r) (k : Below b.heap.size b c) : a.grownBy c r :=
  grown_trans h ⟨k.os, k.tape, k.output, k.size, fun i hi _ => k.block i hi⟩
theorem grown_alloc {a b : World} {r : Option Nat} (h : a.grownBy b r) (o : Obj) : a.grownBy (b.alloc o) r :=
  grown_trans h (World.grownBy_alloc b o r)
theorem grown_setCell {a b : World} {r : Option Nat} (h : a.grownBy b r) {p : Addr} (hp : r = some p.block ∨ a.heap.size ≤ p.block) (v : Value) : a.grownBy (b.setCell p v) r :=
  ⟨h.os, h.tape, h.output, by simpa [World.setCell] using h.size, fun i hi hr => by
    rw [Below.heap_setCell _ _ _ _ (by rintro rfl; rcases hp with hp | hp; · exact hr hp.symm
                                       · omega)]
    exact h.block i hi hr⟩
theorem grown_setRow {a b : World} {r : Option Nat} (h : a.grownBy b r) {g : Nat} (hp : r = some g ∨ a.heap.size ≤ g) (cs : Array Value) : a.grownBy (b.setRow g cs) r :=
  ⟨h.os, h.tape, h.output, by simpa using h.size, fun i hi hr => by
    rw [setRow_other _ _ _ _ (by rintro rfl; rcases hp with hp | hp; · exact hr hp.symm
                                 · omega)]
    exact h.block i hi hr⟩
theorem grown_drew {a b : World} {r : Option Nat} (h : a.grownBy b r) : a.grownBy b.drew r := ⟨h.os, h.tape, h.output, h.size, h.block⟩
theorem grown_is_below {a b : World} {g B : Nat} (h : a.grownBy b (some g)) (hB : B ≤ g) (hB' : B ≤ a.heap.size) : Below B a b :=
  ⟨h.os, h.tape, h.output, h.size, fun k hk => h.block k (by omega) (by intro e; cases e; omega)⟩

/-- Row g alone was written, and it lies above all that was there at first. -/
theorem below_grown {a b c : World} {B g : Nat} (h : Below B a b) (k : b.grownBy c (some g)) (hg : B ≤ g) (hB : B ≤ b.heap.size) : Below B a c :=
  h.trans (grown_is_below k hg hB)
theorem grown_own {a b c : World} {r : Option Nat} {g : Nat} (h : a.grownBy b r) (k : b.grownBy c (some g)) (hg : a.heap.size ≤ g) : a.grownBy c r :=
  ⟨k.os.trans h.os, k.tape.trans h.tape, k.output.trans h.output, Nat.le_trans h.size k.size,
    fun i hi hr => (k.block i (Nat.lt_of_lt_of_le hi h.size) (by intro e; cases e; omega)).trans (h.block i hi hr)⟩
theorem row_grown {w w' : World} {g : Nat} {r : Option Nat} {o : Obj} (h : w.heap[g]? = some o) (hb : w.grownBy w' r) (hne : r ≠ some g) : w'.heap[g]? = some o := by
  rw [hb.block g (Array.getElem?_eq_some_iff.1 h).1 (fun e => hne e.symm)]; exact h
/-- A row of the call's own is there, whole. -/
theorem row_below {w w' : World} {g : Nat} {o : Obj} (h : w.heap[g]? = some o) (hb : Below w.heap.size w w') : w'.heap[g]? = some o := by
  rw [hb.block g (Array.getElem?_eq_some_iff.1 h).1]; exact h
theorem row_lt {w : World} {g : Nat} {o : Obj} (h : w.heap[g]? = some o) : g < w.heap.size := (Array.getElem?_eq_some_iff.1 h).1

/-- A slice of bytes is turned into one: the end of its row is marked (it may be a string's). -/
theorem wpList_convert_bytes {P : Program} {ops : Array Oper} {rest : List Oper} {o : Oper} {a : Act} {w : World} {Q : Exit → Act → World → Prop} (hgd : o.guard = none) (t e : TypeId) (x : Operand) (ho : o.op = .convert t t x)
    (ht : P.underlying t = some (.slice e)) (he : P.underlying e = some (.int .u8)) (g n c : Nat) (hx : a.eval x = .slice (some ⟨g, 0, none⟩) n c) (cs : Array Value) (e' : TypeId) (hg : w.heap[g]? = some (.cells cs e' (0, 0)))
    (h : ∀ w' f1 f2, w'.heap[g]? = some (.cells cs e' (f1, f2)) → w.grownBy w' (some g) → wpList P ops Q rest (a.put o.dst (.slice (some ⟨g, 0, none⟩) n c)) w') : wpList P ops Q (o :: rest) a w := by
  refine wpList_plain hgd fun K hK => ?_
  have hs : w.shape? g = some (e', cs.size) := by
    unfold World.shape?
    rw [hg]
  have hf : (w.freeze ⟨g, cs.size, none⟩ 1).heap[g]? = some (.cells cs e' (cs.size, cs.size + 1)) := by
    unfold World.freeze
    simp [Array.getElem?_modify, hg]
  have hgr : w.grownBy (w.freeze ⟨g, cs.size, none⟩ 1) (some g) := by
    unfold World.freeze
    refine ⟨rfl, rfl, rfl, by simp, fun k _ hk => ?_⟩
    simp only [Nat.one_ne_zero, if_false, Array.getElem?_modify]
    rw [if_neg (by rintro rfl; exact hk rfl)]
  unfold Oper.wp execOp
  simp only [ho, hx, convert, Sem.run_bind, run_underlying ht, run_underlying he, Result.andThen_ok, markStringish, shape, freeze, Sem.run, hs, Sem.run_pure, beq_self_eq_true]
  exact hK _ _ (h _ _ _ hf hgr)

/-- A row of bytes. -/
theorem Sl.row {w : World} {g : Nat} (bs : List Nat) {T : TypeId} {fz : Nat × Nat} (hg : w.heap[g]? = some (.cells (bs.map fun x : Nat => Value.int .u8 (x : Int)).toArray T fz)) :
    Sl (fun b => b = g) w (some ⟨g, 0, none⟩) bs :=
  .inr ⟨_, _, rfl, rfl, fun i hi => by
    rw [cell_of_row _ g _ _ _ _ hg]
    simp [hi]⟩
/-- One part, as a call with one argument makes it. -/
theorem Pt.one {w : World} {ok : Nat → Prop} {a : Option Addr} {bs : List Nat} (h : Sl ok w a bs) (hb : Bytes bs) (c : Nat) (hc : bs.length ≤ c ∧ c ≤ maxLen) (T : TypeId) :
    Pt (fun b => ok b ∨ b = w.heap.size) (w.alloc (.cells #[.slice a bs.length c] T)) (some ⟨w.heap.size, 0, none⟩) [bs] :=
  ⟨by simpa using hb, .inr ⟨_, _, fun _ => a, fun _ => c, rfl, .inr rfl, fun i hi => by
    have h0 : i = 0 := by simp at hi; omega
    subst h0
    rw [cell_of_row _ w.heap.size _ _ _ _ (heap_alloc_new w _)]; rfl, fun i hi => by
    have h0 : i = 0 := by simp at hi; omega
    subst h0
    exact (h.mono fun _ hk _ => .inl hk).below ((Below.refl _ _).alloc (Nat.le_refl _) _), fun i hi => by
    have h0 : i = 0 := by simp at hi; omega
    subst h0
    exact hc⟩⟩
/-- Of a nil source the capacity is never asked. -/
theorem run_append_nil_any {P : Program} {w : World} {base : Nat} {e : TypeId} {size : Nat} (t ty : TypeId) (i : TypeInfo) (ht : P.underlying t = some (.slice e)) (hi : P.info? e = some i)
    (v : Value) (n c : Nat) (xs : List Value) (hown : w.ownsRow base e size v n xs) :
    (Builtin.append_ #[t, t] ty #[v, .slice none 0 c]).run P w = .ok v w := by
  have same : Builtin.append_ #[t, t] ty #[v, .slice none 0 c] = Builtin.append_ #[t, t] ty #[v, .slice none 0 0] := rfl
  rw [same]
  exact run_append_owned_none _ base t ty e i size ht hi v n xs hown

/-- 'append(out, x...)' onto a slice of the call's own, of cells one by one, wherever x lies. -/
theorem wpList_append_any {P : Program} {w : World} {ops : Array Oper} {rest : List Oper} {o : Oper} {a : Act} {Q : Exit → Act → World → Prop} (hgd : o.guard = none) (s x : Operand) (t : TypeId)
    (ho : o.op = .call { callee := .builtin .append, args := #[s, x], argTypes := #[t, t] })
    (base : Nat) (e : TypeId) (z : Value) (bytes : Nat) (ht : P.underlying t = some (.slice e)) (hi : (P.info? e).map (fun i => (i.zero, i.size, i.bytes)) = some (some z, 1, bytes)) (hzs : z.cells.size = 1)
    (v : Value) (n : Nat) (xs : List Value) (hs : a.eval s = v) (hown : w.ownsRow base e 1 v n xs)
    (ao : Option Addr) (m c : Nat) (news : List Value) (hx : a.eval x = .slice ao m c) (hl : news.length = m) (hnone : ao = none → m = 0) (hnews : ∀ ad, ao = some ad → ∀ j u, news[j]? = some u → w.cell? (ad.add j) = some u) (h1 : ∀ u ∈ news, u.oneCell' = true)
    (h63 : n + m ≤ maxLen) (hbytes : (n + m) * bytes ≤ 140737488355328) (hbase : base ≤ w.heap.size)
    (h : ∀ v' w', w'.ownsRow base e 1 v' (n + m) (xs ++ news) → w.grownBy w' v.ownBlock → (v' = .slice none 0 0 ↔ v = .slice none 0 0 ∧ m = 0) → wpList P ops Q rest (a.put o.dst v') w') : wpList P ops Q (o :: rest) a w := by
  obtain ⟨i, hi, hz0, hz1, hz2⟩ := info_parts hi
  cases ao with
  | some ad => exact wpList_append_own w hgd s x t ho base e i z 1 bytes ht hi hz0 hz1 hz2 hzs (by decide) v n xs hs hown ad m c news hx (by omega) (hnews ad rfl) h1 h63 hbytes hbase h
  | none =>
    obtain rfl := hnone rfl
    obtain rfl : news = [] := List.eq_nil_of_length_eq_zero hl
    refine wpList_plain hgd fun K hK => ?_
    have hrun := run_append_nil_any (P := P) t o.type i ht hi v n c xs hown
    unfold Oper.wp
    simp [execOp, ho, resolve, invoke, builtin, hs, hx, hrun, Result.andThen]
    exact hK _ _ (h v w (by simpa using hown) (grown_refl _ _) (by simp))

def u8s (bs : List Nat) : List Value := bs.map fun x : Nat => Value.int .u8 (x : Int)
theorem u8s_length (bs : List Nat) : (u8s bs).length = bs.length := by simp [u8s]
theorem u8s_one (bs : List Nat) : ∀ u ∈ u8s bs, u.oneCell' = true := by
  intro u hu
  obtain ⟨_, _, rfl⟩ := List.mem_map.1 hu
  rfl
theorem u8s_append (a b : List Nat) : u8s (a ++ b) = u8s a ++ u8s b := by simp [u8s]
theorem Sl.cells {ok : Nat → Prop} {w : World} {a : Option Addr} {bs : List Nat} (h : Sl ok w a bs) : ∀ ad, a = some ad → ∀ j u, (u8s bs)[j]? = some u → w.cell? (ad.add j) = some u := by
  intro ad had j u hu
  rcases h with rfl | ⟨b, off, rfl, _, hc⟩
  · simp [u8s] at hu
  · cases had
    have hj : j < bs.length := by
      have := (List.getElem?_eq_some_iff.1 hu).1
      simpa [u8s] using this
    rw [Addr.add_lit, hc j hj]
    simp [u8s, hj] at hu
    simp [hj, ← hu]
theorem Sl.some_len {ok : Nat → Prop} {w : World} {a : Option Addr} {bs : List Nat} (h : Sl ok w a bs) : a = none → bs.length = 0 := by
  rintro rfl
  rcases h with rfl | ⟨_, _, h, _⟩
  · rfl
  · cases h
/-- What is owned reads as its bytes. -/
theorem Sl.owned {w : World} {base e : Nat} {v : Value} {n : Nat} {bs : List Nat} (h : w.ownsRow base e 1 v n (u8s bs)) :
    ∃ a c, v = .slice a bs.length c ∧ n = bs.length ∧ (a = none → c = 0) ∧ Sl (fun b => base ≤ b ∧ v.ownBlock = some b) w a bs := by
  have hn : n = bs.length := by have := h.1; simp [u8s] at this; omega
  subst hn
  rcases h.2 with ⟨rfl, h0⟩ | ⟨g, cap, cur, rfl, hb, hg, hnc, hm, hcs, ht⟩
  · exact ⟨none, 0, by rw [h0], rfl, fun _ => rfl, .inl (List.eq_nil_of_length_eq_zero h0)⟩
  · refine ⟨_, cap, rfl, rfl, (fun h => by cases h), .inr ⟨g, 0, rfl, ⟨hb, rfl⟩, fun i hi => ?_⟩⟩
    have hc := h.cells (g := g) rfl i (.int .u8 ((bs.getD i 0 : Nat) : Int)) (by simp [u8s, hi])
    rwa [Addr.add_lit] at hc

theorem one_new (w : World) (u : Value) (T : TypeId) : ∀ ad, some (⟨w.heap.size, 0, none⟩ : Addr) = some ad → ∀ j x, [u][j]? = some x → (w.alloc (.cells #[u] T)).cell? (ad.add j) = some x := by
  intro ad had j x hx
  cases had
  have h0 : j = 0 := by
    rcases Nat.eq_zero_or_pos j with h | h
    · exact h
    · rw [List.getElem?_eq_none (by simp; omega)] at hx; cases hx
  subst h0
  rw [Addr.add_lit, cell_of_row _ _ _ _ _ _ (heap_alloc_new w _)]
  simpa using hx
/-- Two rows of two types of elements are two. -/
theorem owns_apart {w : World} {b1 b2 e1 e2 s1 s2 n1 n2 : Nat} {v1 v2 : Value} {x1 x2 : List Value} (h1 : w.ownsRow b1 e1 s1 v1 n1 x1) (h2 : w.ownsRow b2 e2 s2 v2 n2 x2) (he : e1 ≠ e2) :
    v1.ownBlock = none ∨ v1.ownBlock ≠ v2.ownBlock := by
  rcases h1.2 with ⟨rfl, _⟩ | ⟨g, cap, cur, rfl, hb, hg, _⟩
  · exact .inl rfl
  · right
    rcases h2.2 with ⟨rfl, _⟩ | ⟨g', cap', cur', rfl, hb', hg', _⟩
    · simp [Value.ownBlock]
    · intro h
      simp only [Value.ownBlock, Option.some.injEq] at h
      subst h
      rw [hg] at hg'
      simp only [Option.some.injEq, Obj.cells.injEq] at hg'
      exact he hg'.2.1
theorem below_owned {w0 w w' : World} {b e s n : Nat} {v : Value} {x : List Value} (h : Below w0.heap.size w0 w) (ho : w.ownsRow b e s v n x) (hb : w0.heap.size ≤ b) (hg : w.grownBy w' v.ownBlock) : Below w0.heap.size w0 w' :=
  h.grown hg h.size fun k hk => Nat.le_trans hb (ho.lt k hk).1
theorem wpList_append_zeros {P : Program} {w : World} {ops : Array Oper} {rest : List Oper} {o : Oper} {a : Act} {Q : Exit → Act → World → Prop} (hgd : o.guard = none) (s x : Operand) (t tn : TypeId)
    (ho : o.op = .call { callee := .builtin .append, args := #[s, x], argTypes := #[t, tn] }) (e : TypeId) (z : Value) (bytes : Nat) (ht : P.underlying t = some (.slice e)) (k kn : IntKind) (htn : P.underlying tn = some (.int kn))
    (hi : (P.info? e).map (fun i => (i.zero, i.size, i.bytes)) = some (some z, 1, bytes)) (hz : z.cells.size = 1) (n : Nat) (hs : a.eval s = .slice none 0 0) (hx : a.eval x = .int k n) (h0 : 0 < n) (h63 : n ≤ maxLen) (h48 : n * bytes ≤ 281474976710656)
    (h : ∀ w' cur, w'.heap[w.heap.size]? = some (.cells cur e (0, 0)) → n ≤ cur.size → cur.size ≤ maxLen → Below w.heap.size w w' → wpList P ops Q rest (a.put o.dst (.slice (some ⟨w.heap.size, 0, none⟩) n cur.size)) w') : wpList P ops Q (o :: rest) a w := by
  obtain ⟨i, hi, hz0, hz1, hz2⟩ := info_parts hi
  have hge := grownCap_ge w n 0 e
  refine Go.Lib.wpList_append_run w hgd s x t tn ho _ _ hs hx _ _ (Go.Lib.run_append_nil_zeros w t tn o.type e i z k kn ht htn hi hz0 n h0 (by omega) (by unfold maxLen at h63; omega) (by rw [hz2]; exact h48)) ?_
  have hsz : (Builtin.zeroCells z.cells n ++ Builtin.zeroCells z.cells (grownCap w n 0 e - n)).size = grownCap w n 0 e := by
    rw [Array.size_append, size_zeroCells, size_zeroCells, hz]
    omega
  have h' := h _ _ (heap_alloc_new w.drew (.cells (Builtin.zeroCells z.cells n ++ Builtin.zeroCells z.cells (grownCap w n 0 e - n)) e)) (by rw [hsz]; exact hge) (by rw [hsz]; exact grownCap_le_maxLen w n 0 e h63) (((Below.refl _ _).drew).alloc (Nat.le_refl _) _)
  rw [hsz] at h'
  exact h'


/-- Two parts, as a call with two arguments makes them. -/
theorem Parts.two {w : World} {ok : Nat → Prop} {a b : Option Addr} {xs ys : List Nat} (hx : Sl ok w a xs) (hy : Sl ok w b ys) (c d : Nat) (hc : xs.length ≤ c ∧ c ≤ maxLen) (hd : ys.length ≤ d ∧ d ≤ maxLen) (T : TypeId) :
    Parts ok (w.alloc (.cells #[.slice a xs.length c, .slice b ys.length d] T)) w.heap.size 0 [xs, ys] (fun i => if i = 0 then a else b) (fun i => if i = 0 then c else d) := by
  have hb : Below w.heap.size w (w.alloc (.cells #[.slice a xs.length c, .slice b ys.length d] T)) := (Below.refl _ _).alloc (Nat.le_refl _) _
  refine ⟨fun i hi => ?_, fun i hi => ?_, fun i hi => ?_⟩
  all_goals
    have h01 : i = 0 ∨ i = 1 := by simp at hi; omega
    rcases h01 with rfl | rfl
  · rw [cell_of_row _ w.heap.size _ _ _ _ (heap_alloc_new w _)]; rfl
  · rw [cell_of_row _ w.heap.size _ _ _ _ (heap_alloc_new w _)]; rfl
  · exact hx.below hb
  · exact hy.below hb
  · exact hc
  · exact hd

end Go.Inc

