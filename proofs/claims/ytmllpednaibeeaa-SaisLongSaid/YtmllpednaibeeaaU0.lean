/- SMALL LAWS FOR WALKS: hiding, slices of bytes in memory, rows of the call's own, what only one row may change. No program is named here. PLAIN FACTS OF SETS OF NUMBERS: the document's set as a list of bools, its numbers, the lowest one, its bytes; the same in words of 64 bits. No program is named here. ROWS OF BYTES OF THE CALL'S OWN; SLICES OF NUMBERS. No program is named here. SLICES OF BOOLS, OWN ROWS OF NUMBERS. No program is named here. PLAIN FACTS OF SUFFIXES: how much two lists begin with alike, which is less; texts; kinds. No program is named here. INDUCING, PLAIN: one scan of an order in which each place that is met puts the place ahead of it into its bucket. No program, no text is named here. INDUCING, PLAIN: first Ss are sown, Ls and then Ss are put; what comes of it is all places, by any order that goes by codes, kinds and what is behind. INDUCING, PLAIN: both scans; the order that comes of it. INDUCING, PLAIN: texts; from the first Ss in the order of their suffixes comes the order of all. INDUCING, PLAIN: pieces, told with their kinds; comparing them; what any order that is induced goes by. INDUCING, PLAIN: the pieces of a text; names in an order that is induced. PLAIN FACTS OF ORDERS: all numbers from 0 on, each once; turned; turned twice. No program is named here. INDUCING, PLAIN: the reduced text. PLAIN: levels of a text (layer 17). A LAW OF append: the row is where it was, or new. No program is named here. PLAIN FACTS OF SYMBOLS: how often each is in a text, which are in it. No program is named here. -/
import Derived.WalkKit
import Derived.Below
import Derived.WalkSpells
import Derived.Laws.CopyOwn
import Derived.Lib.AppendZeros
import Derived.Lib.SliceRun
namespace Go.Inc
open Go.RowKit

theorem hid {p : Prop} (h : p) : Hid p := h
theorem ret_u32 {a b : Nat} (h : a = b) : Ending.returned (.int .u32 (a : Int)) = .returned (.int .u32 (b : Int)) := by rw [h]
theorem ret_int {k : IntKind} {a b : Int} (h : a = b) : Ending.returned (.int k a) = .returned (.int k b) := by rw [h]
theorem ret_bool {a b : Bool} (h : a = b) : Ending.returned (.bool a) = .returned (.bool b) := by rw [h]
theorem val_int {k : IntKind} {a b : Int} (h : a = b) : Value.int k a = Value.int k b := by rw [h]
theorem val_bool {a b : Bool} (h : a = b) : Value.bool a = Value.bool b := by rw [h]

/-- A variable is made: its zero value's cells are known under a name. -/
theorem wpList_alloc {P : Program} {ops : Array Oper} {rest : List Oper} {o : Oper} {a : Act} {w : World} {Q : Exit → Act → World → Prop} (hgd : o.guard = none) (t : TypeId) (ho : o.op = .alloc t)
    (cs : Array Value) (hz : ((P.info? t).bind (·.zero)).map (·.cells) = some cs)
    (h : wpList P ops Q rest (a.put o.dst (.pointer (some ⟨w.heap.size, 0, none⟩))) (w.alloc (.cells cs t))) : wpList P ops Q (o :: rest) a w := by
  refine wpList_plain hgd fun K hK => ?_
  unfold Oper.wp
  obtain ⟨z, hz1, rfl⟩ := Option.map_eq_some_iff.1 hz
  obtain ⟨i, hi, hz2⟩ := Option.bind_eq_some_iff.1 hz1
  simp [execOp, ho, Instr.alloc, zeroValue, typeInfo, hi, hz2, newVar, newRow, Result.andThen]
  exact hK _ _ h

/-- The same, the world behind it a variable. -/
theorem wpList_alloc_own {P : Program} {ops : Array Oper} {rest : List Oper} {o : Oper} {a : Act} {w : World} {Q : Exit → Act → World → Prop} (hgd : o.guard = none) (t : TypeId) (ho : o.op = .alloc t)
    (cs : Array Value) (hz : ((P.info? t).bind (·.zero)).map (·.cells) = some cs)
    (h : ∀ w', w'.heap[w.heap.size]? = some (.cells cs t (0, 0)) → Below w.heap.size w w' → wpList P ops Q rest (a.put o.dst (.pointer (some ⟨w.heap.size, 0, none⟩))) w') : wpList P ops Q (o :: rest) a w :=
  wpList_alloc hgd t ho cs hz (h _ (heap_alloc_new w _) ((Below.refl _ _).alloc (Nat.le_refl _) _))

/-- A whole row of the call's own is written, the world behind it a variable. -/
theorem wpList_store_own {P : Program} {ops : Array Oper} {rest : List Oper} {o : Oper} {a : Act} {w : World} {Q : Exit → Act → World → Prop} (hgd : o.guard = none) (ty : TypeId) (x y : Operand) (ho : o.op = .store ty x y)
    (g : Nat) (cells : Array Value) (hx : a.eval x = .pointer (some ⟨g, 0, none⟩)) (hy : a.eval y = .agg cells)
    (t : TypeId) (old : Array Value) (hg : w.heap[g]? = some (.cells old t (0, 0))) (hi : (P.info? ty).map (·.size) = some cells.size)
    (hold : old.size = cells.size) (h1 : cells.all (·.oneCell') = true)
    (h : ∀ w', w'.heap[g]? = some (.cells cells t (0, 0)) → w.grownBy w' (some g) → wpList P ops Q rest (a.put o.dst undef) w') : wpList P ops Q (o :: rest) a w :=
  wpList_store_row hgd ty x y ho g cells hx hy t old hg hi hold h1 (h _ (setRow_heap _ _ _ _ _ _ hg) ⟨rfl, rfl, rfl, by simp, fun k _ hk => setRow_other _ _ _ _ (by rintro rfl; exact hk rfl)⟩)

/-! Lists of bytes. -/
def Bytes (bs : List Nat) : Prop := ∀ x ∈ bs, x < 256
theorem Bytes.nil : Bytes [] := fun _ h => by cases h
theorem Bytes.take {bs : List Nat} (h : Bytes bs) (k : Nat) : Bytes (bs.take k) := fun x hx => h x (List.mem_of_mem_take hx)
theorem Bytes.drop {bs : List Nat} (h : Bytes bs) (k : Nat) : Bytes (bs.drop k) := fun x hx => h x (List.mem_of_mem_drop hx)
theorem Bytes.append {a b : List Nat} (ha : Bytes a) (hb : Bytes b) : Bytes (a ++ b) := fun x hx => (List.mem_append.1 hx).elim (ha x) (hb x)
theorem Bytes.getD {bs : List Nat} (hb : Bytes bs) (k : Nat) : bs.getD k 0 < 256 := by
  rw [List.getD_eq_getElem?_getD]
  cases h : bs[k]? with
  | none => simp
  | some x => simpa using hb x (List.mem_of_getElem? h)
theorem take_snoc {bs : List Nat} {k : Nat} (h : k < bs.length) : bs.take (k + 1) = bs.take k ++ [bs.getD k 0] := by
  rw [List.take_succ_eq_append_getElem h, List.getD_eq_getElem?_getD, List.getElem?_eq_getElem h]; rfl

theorem cell_lt {w : World} {p : Addr} {v : Value} (h : w.cell? p = some v) : p.block < w.heap.size := block_lt_of_cell h

/-- A slice's address leads to these bytes, in a block that is 'ok' (an empty slice's address leads to whatever). -/
def Sl (ok : Nat → Prop) (w : World) (a : Option Addr) (bs : List Nat) : Prop :=
  bs = [] ∨ ∃ b off, a = some ⟨b, off, none⟩ ∧ ok b ∧ ∀ i, i < bs.length → w.cell? ⟨b, off + i, none⟩ = some (.int .u8 ((bs.getD i 0 : Nat) : Int))
section
variable {ok ok' : Nat → Prop} {w w' : World} {a : Option Addr} {bs : List Nat}
theorem Sl.nil (ok : Nat → Prop) (w : World) (a : Option Addr) : Sl ok w a [] := .inl rfl
theorem Sl.mono (h : Sl ok w a bs) (hk : ∀ b, ok b → b < w.heap.size → ok' b) : Sl ok' w a bs := by
  rcases h with h | ⟨b, off, ha, hb, hc⟩
  · exact .inl h
  · by_cases h0 : bs = []
    · exact .inl h0
    · exact .inr ⟨b, off, ha, hk b hb (cell_lt (hc 0 (by cases bs <;> simp_all))), hc⟩
theorem Sl.kept (h : Sl ok w a bs) (hb : ∀ b, ok b → b < w.heap.size → w'.heap[b]? = w.heap[b]?) : Sl ok w' a bs := by
  rcases h with h | ⟨b, off, rfl, hk, hc⟩
  · exact .inl h
  · by_cases h0 : bs = []
    · exact .inl h0
    · refine .inr ⟨b, off, rfl, hk, fun i hi => ?_⟩
      have h0 := hc 0 (by cases bs <;> simp_all)
      rw [← hc i hi]
      exact World.cell?_of_block (hb b hk (cell_lt h0))
theorem Sl.below (h : Sl ok w a bs) (hb : Below w.heap.size w w') : Sl ok w' a bs := h.kept fun b _ hlt => hb.block b hlt
theorem Sl.grown {r : Nat} (h : Sl ok w a bs) (hg : w.grownBy w' (some r)) (hr : ∀ b, ok b → b ≠ r) : Sl ok w' a bs :=
  h.kept fun b hk hlt => hg.block b hlt (by intro e; cases e; exact hr _ hk rfl)
theorem Sl.front (h : Sl ok w a bs) (k : Nat) : Sl ok w a (bs.take k) := by
  rcases h with rfl | ⟨b, off, rfl, hk, hc⟩
  · left; simp
  · refine .inr ⟨b, off, rfl, hk, fun i hi => ?_⟩
    simp only [List.length_take] at hi
    rw [hc i (by omega), List.getD_eq_getElem?_getD, List.getD_eq_getElem?_getD, List.getElem?_take, if_pos (by omega)]
end

/-- A list of lists of bytes, as a slice of slices. -/
structure Parts (ok : Nat → Prop) (w : World) (b o : Nat) (ps : List (List Nat)) (A : Nat → Option Addr) (C : Nat → Nat) : Prop where
  cell : ∀ i, i < ps.length → w.cell? ⟨b, o + i, none⟩ = some (.slice (A i) (ps.getD i []).length (C i))
  sl : ∀ i, i < ps.length → Sl ok w (A i) (ps.getD i [])
  cap : ∀ i, i < ps.length → (ps.getD i []).length ≤ C i ∧ C i ≤ maxLen
/-- The same, wherever it lies. -/
def Pt (ok : Nat → Prop) (w : World) (a : Option Addr) (ps : List (List Nat)) : Prop :=
  (∀ p ∈ ps, Bytes p) ∧ (ps = [] ∨ ∃ b o A C, a = some ⟨b, o, none⟩ ∧ ok b ∧ Parts ok w b o ps A C)
section
variable {ok ok' : Nat → Prop} {w w' : World} {a : Option Addr} {ps : List (List Nat)}
theorem Pt.nil (ok : Nat → Prop) (w : World) (a : Option Addr) : Pt ok w a [] := ⟨(fun _ h => by cases h), .inl rfl⟩
theorem Pt.mono (h : Pt ok w a ps) (hk : ∀ b, ok b → b < w.heap.size → ok' b) : Pt ok' w a ps := by
  refine ⟨h.1, ?_⟩
  rcases h.2 with h | ⟨b, o, A, C, ha, hb, hp⟩
  · exact .inl h
  · by_cases h0 : ps = []
    · exact .inl h0
    · exact .inr ⟨b, o, A, C, ha, hk b hb (cell_lt (hp.cell 0 (by cases ps <;> simp_all))), hp.cell, (fun i hi => (hp.sl i hi).mono hk), hp.cap⟩
theorem Pt.kept (h : Pt ok w a ps) (hb : ∀ b, ok b → b < w.heap.size → w'.heap[b]? = w.heap[b]?) : Pt ok w' a ps := by
  refine ⟨h.1, ?_⟩
  rcases h.2 with h | ⟨b, o, A, C, ha, hk, hp⟩
  · exact .inl h
  · exact .inr ⟨b, o, A, C, ha, hk, (fun i hi => by
      rw [← hp.cell i hi]; exact World.cell?_of_block (hb b hk (cell_lt (hp.cell i hi)))), (fun i hi => (hp.sl i hi).kept hb), hp.cap⟩
theorem Pt.below (h : Pt ok w a ps) (hb : Below w.heap.size w w') : Pt ok w' a ps := h.kept fun b _ hlt => hb.block b hlt
theorem Pt.grown {r : Nat} (h : Pt ok w a ps) (hg : w.grownBy w' (some r)) (hr : ∀ b, ok b → b ≠ r) : Pt ok w' a ps :=
  h.kept fun b hk hlt => hg.block b hlt (by intro e; cases e; exact hr _ hk rfl)
end

/-! What one row alone may change: 'grownBy', step by step. -/
theorem grown_refl (w : World) (r : Option Nat) : w.grownBy w r := ⟨rfl, rfl, rfl, Nat.le_refl _, fun _ _ _ => rfl⟩
theorem grown_trans {a b c : World} {r : Option Nat} (h : a.grownBy b r) (k : b.grownBy c r) : a.grownBy c r :=
  ⟨k.os.trans h.os, k.tape.trans h.tape, k.output.trans h.output, Nat.le_trans h.size k.size,
    fun i hi hr => (k.block i (Nat.lt_of_lt_of_le hi h.size) hr).trans (h.block i hi hr)⟩
theorem grown_below {a b c : World} {r : Option Nat} (h : a.grownBy b r) (k : Below b.heap.size b c) : a.grownBy c r :=
  grown_trans h ⟨k.os, k.tape, k.output, k.size, fun i hi _ => k.block i hi⟩
theorem grown_alloc {a b : World} {r : Option Nat} (h : a.grownBy b r) (o : Obj) : a.grownBy (b.alloc o) r :=
  grown_trans h (World.grownBy_alloc b o r)
theorem grown_setCell {a b : World} {r : Option Nat} (h : a.grownBy b r) {p : Addr} (hp : r = some p.block ∨ a.heap.size ≤ p.block) (v : Value) : a.grownBy (b.setCell p v) r :=
  ⟨h.os, h.tape, h.output, by simpa [World.setCell] using h.size, fun i hi hr => by
    rw [Below.heap_setCell _ _ _ _ (by rintro rfl; rcases hp with hp | hp; · exact hr hp.symm
                                       · omega)]
    exact h.block i hi hr⟩
theorem grown_setRow {a b : World} {r : Option Nat} (h : a.grownBy b r) {g : Nat} (hp : r = some g ∨ a.heap.size ≤ g) (cs : Array Value) : a.grownBy (b.setRow g cs) r :=
  ⟨h.os, h.tape, h.output, by simpa using h.size, fun i hi hr => by
    rw [setRow_other _ _ _ _ (by rintro rfl; rcases hp with hp | hp; · exact hr hp.symm
                                 · omega)]
    exact h.block i hi hr⟩
theorem grown_drew {a b : World} {r : Option Nat} (h : a.grownBy b r) : a.grownBy b.drew r := ⟨h.os, h.tape, h.output, h.size, h.block⟩
theorem grown_is_below {a b : World} {g B : Nat} (h : a.grownBy b (some g)) (hB : B ≤ g) (hB' : B ≤ a.heap.size) : Below B a b :=
  ⟨h.os, h.tape, h.output, h.size, fun k hk => h.block k (by omega) (by intro e; cases e; omega)⟩

/-- Row g alone was written, and it lies above all that was there at first. -/
theorem below_grown {a b c : World} {B g : Nat} (h : Below B a b) (k : b.grownBy c (some g)) (hg : B ≤ g) (hB : B ≤ b.heap.size) : Below B a c :=
  h.trans (grown_is_below k hg hB)
theorem grown_own {a b c : World} {r : Option Nat} {g : Nat} (h : a.grownBy b r) (k : b.grownBy c (some g)) (hg : a.heap.size ≤ g) : a.grownBy c r :=
  ⟨k.os.trans h.os, k.tape.trans h.tape, k.output.trans h.output, Nat.le_trans h.size k.size,
    fun i hi hr => (k.block i (Nat.lt_of_lt_of_le hi h.size) (by intro e; cases e; omega)).trans (h.block i hi hr)⟩
theorem row_grown {w w' : World} {g : Nat} {r : Option Nat} {o : Obj} (h : w.heap[g]? = some o) (hb : w.grownBy w' r) (hne : r ≠ some g) : w'.heap[g]? = some o := by
  rw [hb.block g (Array.getElem?_eq_some_iff.1 h).1 (fun e => hne e.symm)]; exact h
/-- A row of the call's own is there, whole. -/
theorem row_below {w w' : World} {g : Nat} {o : Obj} (h : w.heap[g]? = some o) (hb : Below w.heap.size w w') : w'.heap[g]? = some o := by
  rw [hb.block g (Array.getElem?_eq_some_iff.1 h).1]; exact h
theorem row_lt {w : World} {g : Nat} {o : Obj} (h : w.heap[g]? = some o) : g < w.heap.size := (Array.getElem?_eq_some_iff.1 h).1

/-- A slice of bytes is turned into one: the end of its row is marked (it may be a string's). -/
theorem wpList_convert_bytes {P : Program} {ops : Array Oper} {rest : List Oper} {o : Oper} {a : Act} {w : World} {Q : Exit → Act → World → Prop} (hgd : o.guard = none) (t e : TypeId) (x : Operand) (ho : o.op = .convert t t x)
    (ht : P.underlying t = some (.slice e)) (he : P.underlying e = some (.int .u8)) (g n c : Nat) (hx : a.eval x = .slice (some ⟨g, 0, none⟩) n c) (cs : Array Value) (e' : TypeId) (hg : w.heap[g]? = some (.cells cs e' (0, 0)))
    (h : ∀ w' f1 f2, w'.heap[g]? = some (.cells cs e' (f1, f2)) → w.grownBy w' (some g) → wpList P ops Q rest (a.put o.dst (.slice (some ⟨g, 0, none⟩) n c)) w') : wpList P ops Q (o :: rest) a w := by
  refine wpList_plain hgd fun K hK => ?_
  have hs : w.shape? g = some (e', cs.size) := by
    unfold World.shape?
    rw [hg]
  have hf : (w.freeze ⟨g, cs.size, none⟩ 1).heap[g]? = some (.cells cs e' (cs.size, cs.size + 1)) := by
    unfold World.freeze
    simp [Array.getElem?_modify, hg]
  have hgr : w.grownBy (w.freeze ⟨g, cs.size, none⟩ 1) (some g) := by
    unfold World.freeze
    refine ⟨rfl, rfl, rfl, by simp, fun k _ hk => ?_⟩
    simp only [Nat.one_ne_zero, if_false, Array.getElem?_modify]
    rw [if_neg (by rintro rfl; exact hk rfl)]
  unfold Oper.wp execOp
  simp only [ho, hx, convert, Sem.run_bind, run_underlying ht, run_underlying he, Result.andThen_ok, markStringish, shape, freeze, Sem.run, hs, Sem.run_pure, beq_self_eq_true]
  exact hK _ _ (h _ _ _ hf hgr)

/-- A row of bytes. -/
theorem Sl.row {w : World} {g : Nat} (bs : List Nat) {T : TypeId} {fz : Nat × Nat} (hg : w.heap[g]? = some (.cells (bs.map fun x : Nat => Value.int .u8 (x : Int)).toArray T fz)) :
    Sl (fun b => b = g) w (some ⟨g, 0, none⟩) bs :=
  .inr ⟨_, _, rfl, rfl, fun i hi => by
    rw [cell_of_row _ g _ _ _ _ hg]
    simp [hi]⟩
/-- One part, as a call with one argument makes it. -/
theorem Pt.one {w : World} {ok : Nat → Prop} {a : Option Addr} {bs : List Nat} (h : Sl ok w a bs) (hb : Bytes bs) (c : Nat) (hc : bs.length ≤ c ∧ c ≤ maxLen) (T : TypeId) :
    Pt (fun b => ok b ∨ b = w.heap.size) (w.alloc (.cells #[.slice a bs.length c] T)) (some ⟨w.heap.size, 0, none⟩) [bs] :=
  ⟨by simpa using hb, .inr ⟨_, _, fun _ => a, fun _ => c, rfl, .inr rfl, fun i hi => by
    have h0 : i = 0 := by simp at hi; omega
    subst h0
    rw [cell_of_row _ w.heap.size _ _ _ _ (heap_alloc_new w _)]; rfl, fun i hi => by
    have h0 : i = 0 := by simp at hi; omega
    subst h0
    exact (h.mono fun _ hk _ => .inl hk).below ((Below.refl _ _).alloc (Nat.le_refl _) _), fun i hi => by
    have h0 : i = 0 := by simp at hi; omega
    subst h0
    exact hc⟩⟩
/-- Of a nil source the capacity is never asked. -/
theorem run_append_nil_any {P : Program} {w : World} {base : Nat} {e : TypeId} {size : Nat} (t ty : TypeId) (i : TypeInfo) (ht : P.underlying t = some (.slice e)) (hi : P.info? e = some i)
    (v : Value) (n c : Nat) (xs : List Value) (hown : w.ownsRow base e size v n xs) :
    (Builtin.append_ #[t, t] ty #[v, .slice none 0 c]).run P w = .ok v w := by
  have same : Builtin.append_ #[t, t] ty #[v, .slice none 0 c] = Builtin.append_ #[t, t] ty #[v, .slice none 0 0] := rfl
  rw [same]
  exact run_append_owned_none _ base t ty e i size ht hi v n xs hown

/-- 'append(out, x...)' onto a slice of the call's own, of cells one by one, wherever x lies. -/
theorem wpList_append_any {P : Program} {w : World} {ops : Array Oper} {rest : List Oper} {o : Oper} {a : Act} {Q : Exit → Act → World → Prop} (hgd : o.guard = none) (s x : Operand) (t : TypeId)
    (ho : o.op = .call { callee := .builtin .append, args := #[s, x], argTypes := #[t, t] })
    (base : Nat) (e : TypeId) (z : Value) (bytes : Nat) (ht : P.underlying t = some (.slice e)) (hi : (P.info? e).map (fun i => (i.zero, i.size, i.bytes)) = some (some z, 1, bytes)) (hzs : z.cells.size = 1)
    (v : Value) (n : Nat) (xs : List Value) (hs : a.eval s = v) (hown : w.ownsRow base e 1 v n xs)
    (ao : Option Addr) (m c : Nat) (news : List Value) (hx : a.eval x = .slice ao m c) (hl : news.length = m) (hnone : ao = none → m = 0) (hnews : ∀ ad, ao = some ad → ∀ j u, news[j]? = some u → w.cell? (ad.add j) = some u) (h1 : ∀ u ∈ news, u.oneCell' = true)
    (h63 : n + m ≤ maxLen) (hbytes : (n + m) * bytes ≤ 140737488355328) (hbase : base ≤ w.heap.size)
    (h : ∀ v' w', w'.ownsRow base e 1 v' (n + m) (xs ++ news) → w.grownBy w' v.ownBlock → (v' = .slice none 0 0 ↔ v = .slice none 0 0 ∧ m = 0) → wpList P ops Q rest (a.put o.dst v') w') : wpList P ops Q (o :: rest) a w := by
  obtain ⟨i, hi, hz0, hz1, hz2⟩ := info_parts hi
  cases ao with
  | some ad => exact wpList_append_own w hgd s x t ho base e i z 1 bytes ht hi hz0 hz1 hz2 hzs (by decide) v n xs hs hown ad m c news hx (by omega) (hnews ad rfl) h1 h63 hbytes hbase h
  | none =>
    obtain rfl := hnone rfl
    obtain rfl : news = [] := List.eq_nil_of_length_eq_zero hl
    refine wpList_plain hgd fun K hK => ?_
    have hrun := run_append_nil_any (P := P) t o.type i ht hi v n c xs hown
    unfold Oper.wp
    simp [execOp, ho, resolve, invoke, builtin, hs, hx, hrun, Result.andThen]
    exact hK _ _ (h v w (by simpa using hown) (grown_refl _ _) (by simp))

def u8s (bs : List Nat) : List Value := bs.map fun x : Nat => Value.int .u8 (x : Int)
theorem u8s_length (bs : List Nat) : (u8s bs).length = bs.length := by simp [u8s]
theorem u8s_one (bs : List Nat) : ∀ u ∈ u8s bs, u.oneCell' = true := by
  intro u hu
  obtain ⟨_, _, rfl⟩ := List.mem_map.1 hu
  rfl
theorem u8s_append (a b : List Nat) : u8s (a ++ b) = u8s a ++ u8s b := by simp [u8s]
theorem Sl.cells {ok : Nat → Prop} {w : World} {a : Option Addr} {bs : List Nat} (h : Sl ok w a bs) : ∀ ad, a = some ad → ∀ j u, (u8s bs)[j]? = some u → w.cell? (ad.add j) = some u := by
  intro ad had j u hu
  rcases h with rfl | ⟨b, off, rfl, _, hc⟩
  · simp [u8s] at hu
  · cases had
    have hj : j < bs.length := by
      have := (List.getElem?_eq_some_iff.1 hu).1
      simpa [u8s] using this
    rw [Addr.add_lit, hc j hj]
    simp [u8s, hj] at hu
    simp [hj, ← hu]
theorem Sl.some_len {ok : Nat → Prop} {w : World} {a : Option Addr} {bs : List Nat} (h : Sl ok w a bs) : a = none → bs.length = 0 := by
  rintro rfl
  rcases h with rfl | ⟨_, _, h, _⟩
  · rfl
  · cases h
/-- What is owned reads as its bytes. -/
theorem Sl.owned {w : World} {base e : Nat} {v : Value} {n : Nat} {bs : List Nat} (h : w.ownsRow base e 1 v n (u8s bs)) :
    ∃ a c, v = .slice a bs.length c ∧ n = bs.length ∧ (a = none → c = 0) ∧ Sl (fun b => base ≤ b ∧ v.ownBlock = some b) w a bs := by
  have hn : n = bs.length := by have := h.1; simp [u8s] at this; omega
  subst hn
  rcases h.2 with ⟨rfl, h0⟩ | ⟨g, cap, cur, rfl, hb, hg, hnc, hm, hcs, ht⟩
  · exact ⟨none, 0, by rw [h0], rfl, fun _ => rfl, .inl (List.eq_nil_of_length_eq_zero h0)⟩
  · refine ⟨_, cap, rfl, rfl, (fun h => by cases h), .inr ⟨g, 0, rfl, ⟨hb, rfl⟩, fun i hi => ?_⟩⟩
    have hc := h.cells (g := g) rfl i (.int .u8 ((bs.getD i 0 : Nat) : Int)) (by simp [u8s, hi])
    rwa [Addr.add_lit] at hc

theorem one_new (w : World) (u : Value) (T : TypeId) : ∀ ad, some (⟨w.heap.size, 0, none⟩ : Addr) = some ad → ∀ j x, [u][j]? = some x → (w.alloc (.cells #[u] T)).cell? (ad.add j) = some x := by
  intro ad had j x hx
  cases had
  have h0 : j = 0 := by
    rcases Nat.eq_zero_or_pos j with h | h
    · exact h
    · rw [List.getElem?_eq_none (by simp; omega)] at hx; cases hx
  subst h0
  rw [Addr.add_lit, cell_of_row _ _ _ _ _ _ (heap_alloc_new w _)]
  simpa using hx
/-- Two rows of two types of elements are two. -/
theorem owns_apart {w : World} {b1 b2 e1 e2 s1 s2 n1 n2 : Nat} {v1 v2 : Value} {x1 x2 : List Value} (h1 : w.ownsRow b1 e1 s1 v1 n1 x1) (h2 : w.ownsRow b2 e2 s2 v2 n2 x2) (he : e1 ≠ e2) :
    v1.ownBlock = none ∨ v1.ownBlock ≠ v2.ownBlock := by
  rcases h1.2 with ⟨rfl, _⟩ | ⟨g, cap, cur, rfl, hb, hg, _⟩
  · exact .inl rfl
  · right
    rcases h2.2 with ⟨rfl, _⟩ | ⟨g', cap', cur', rfl, hb', hg', _⟩
    · simp [Value.ownBlock]
    · intro h
      simp only [Value.ownBlock, Option.some.injEq] at h
      subst h
      rw [hg] at hg'
      simp only [Option.some.injEq, Obj.cells.injEq] at hg'
      exact he hg'.2.1
theorem below_owned {w0 w w' : World} {b e s n : Nat} {v : Value} {x : List Value} (h : Below w0.heap.size w0 w) (ho : w.ownsRow b e s v n x) (hb : w0.heap.size ≤ b) (hg : w.grownBy w' v.ownBlock) : Below w0.heap.size w0 w' :=
  h.grown hg h.size fun k hk => Nat.le_trans hb (ho.lt k hk).1
theorem wpList_append_zeros {P : Program} {w : World} {ops : Array Oper} {rest : List Oper} {o : Oper} {a : Act} {Q : Exit → Act → World → Prop} (hgd : o.guard = none) (s x : Operand) (t tn : TypeId)
    (ho : o.op = .call { callee := .builtin .append, args := #[s, x], argTypes := #[t, tn] }) (e : TypeId) (z : Value) (bytes : Nat) (ht : P.underlying t = some (.slice e)) (k kn : IntKind) (htn : P.underlying tn = some (.int kn))
    (hi : (P.info? e).map (fun i => (i.zero, i.size, i.bytes)) = some (some z, 1, bytes)) (hz : z.cells.size = 1) (n : Nat) (hs : a.eval s = .slice none 0 0) (hx : a.eval x = .int k n) (h0 : 0 < n) (h63 : n ≤ maxLen) (h48 : n * bytes ≤ 281474976710656)
    (h : ∀ w' cur, w'.heap[w.heap.size]? = some (.cells cur e (0, 0)) → n ≤ cur.size → cur.size ≤ maxLen → Below w.heap.size w w' → wpList P ops Q rest (a.put o.dst (.slice (some ⟨w.heap.size, 0, none⟩) n cur.size)) w') : wpList P ops Q (o :: rest) a w := by
  obtain ⟨i, hi, hz0, hz1, hz2⟩ := info_parts hi
  have hge := grownCap_ge w n 0 e
  refine Go.Lib.wpList_append_run w hgd s x t tn ho _ _ hs hx _ _ (Go.Lib.run_append_nil_zeros w t tn o.type e i z k kn ht htn hi hz0 n h0 (by omega) (by unfold maxLen at h63; omega) (by rw [hz2]; exact h48)) ?_
  have hsz : (Builtin.zeroCells z.cells n ++ Builtin.zeroCells z.cells (grownCap w n 0 e - n)).size = grownCap w n 0 e := by
    rw [Array.size_append, size_zeroCells, size_zeroCells, hz]
    omega
  have h' := h _ _ (heap_alloc_new w.drew (.cells (Builtin.zeroCells z.cells n ++ Builtin.zeroCells z.cells (grownCap w n 0 e - n)) e)) (by rw [hsz]; exact hge) (by rw [hsz]; exact grownCap_le_maxLen w n 0 e h63) (((Below.refl _ _).drew).alloc (Nat.le_refl _) _)
  rw [hsz] at h'
  exact h'


/-- Two parts, as a call with two arguments makes them. -/
theorem Parts.two {w : World} {ok : Nat → Prop} {a b : Option Addr} {xs ys : List Nat} (hx : Sl ok w a xs) (hy : Sl ok w b ys) (c d : Nat) (hc : xs.length ≤ c ∧ c ≤ maxLen) (hd : ys.length ≤ d ∧ d ≤ maxLen) (T : TypeId) :
    Parts ok (w.alloc (.cells #[.slice a xs.length c, .slice b ys.length d] T)) w.heap.size 0 [xs, ys] (fun i => if i = 0 then a else b) (fun i => if i = 0 then c else d) := by
  have hb : Below w.heap.size w (w.alloc (.cells #[.slice a xs.length c, .slice b ys.length d] T)) := (Below.refl _ _).alloc (Nat.le_refl _) _
  refine ⟨fun i hi => ?_, fun i hi => ?_, fun i hi => ?_⟩
  all_goals
    have h01 : i = 0 ∨ i = 1 := by simp at hi; omega
    rcases h01 with rfl | rfl
  · rw [cell_of_row _ w.heap.size _ _ _ _ (heap_alloc_new w _)]; rfl
  · rw [cell_of_row _ w.heap.size _ _ _ _ (heap_alloc_new w _)]; rfl
  · exact hx.below hb
  · exact hy.below hb
  · exact hc
  · exact hd

end Go.Inc
namespace Go.Inc
open Go.RowKit

/-- Is it there? -/
def inB (m : List Bool) (i : Nat) : Bool := m.getD i false
theorem inB_set {m : List Bool} {i : Nat} (h : i < m.length) (b : Bool) (j : Nat) : inB (m.set i b) j = if j = i then b else inB m j := by
  unfold inB
  simp only [List.getD_eq_getElem?_getD, List.getElem?_set]
  by_cases hj : i = j
  · subst hj; simp [h]
  · have : ¬ j = i := fun h => hj h.symm
    simp [hj, this]
theorem inB_far {m : List Bool} {i : Nat} (h : m.length ≤ i) : inB m i = false := by
  unfold inB
  rw [List.getD_eq_getElem?_getD, List.getElem?_eq_none h]
  rfl
theorem inB_lt {m : List Bool} {i : Nat} (h : inB m i = true) : i < m.length := by
  rcases Nat.lt_or_ge i m.length with h1 | h1
  · exact h1
  · rw [inB_far h1] at h; cases h
theorem ext_inB {a b : List Bool} (hl : a.length = b.length) (h : ∀ i, i < a.length → inB a i = inB b i) : a = b := by
  apply List.ext_getElem hl
  intro i h1 h2
  have := h i h1
  unfold inB at this
  rw [List.getD_eq_getElem?_getD, List.getD_eq_getElem?_getD, List.getElem?_eq_getElem h1, List.getElem?_eq_getElem h2] at this
  exact this

/-- The numbers below k. -/
def numsTo (f : Nat → Bool) (k : Nat) : List Nat := (List.range k).filter f
theorem numsTo_zero (f : Nat → Bool) : numsTo f 0 = [] := rfl
theorem numsTo_in {f : Nat → Bool} {k : Nat} (h : f k = true) : numsTo f (k + 1) = numsTo f k ++ [k] := by
  unfold numsTo
  rw [List.range_succ, List.filter_append]
  simp [h]
theorem numsTo_out {f : Nat → Bool} {k : Nat} (h : f k = false) : numsTo f (k + 1) = numsTo f k := by
  unfold numsTo
  rw [List.range_succ, List.filter_append]
  simp [h]
theorem numsTo_mem {f : Nat → Bool} {k i : Nat} : i ∈ numsTo f k ↔ i < k ∧ f i = true := by
  unfold numsTo
  rw [List.mem_filter, List.mem_range]
theorem numsTo_len (f : Nat → Bool) (k : Nat) : (numsTo f k).length ≤ k := by
  unfold numsTo
  have := List.length_filter_le f (List.range k)
  rw [List.length_range] at this
  exact this
theorem numsTo_congr {f g : Nat → Bool} {k : Nat} (h : ∀ i, i < k → f i = g i) : numsTo f k = numsTo g k := by
  unfold numsTo
  apply List.filter_congr
  intro i hi
  exact h i (List.mem_range.1 hi)
/-- Some that are all there, one behind the other. -/
theorem numsTo_run {f : Nat → Bool} {k : Nat} : ∀ n, (∀ i, k ≤ i → i < k + n → f i = true) → numsTo f (k + n) = numsTo f k ++ (List.range n).map (k + ·)
  | 0, _ => by simp
  | n + 1, h => by
    rw [show k + (n + 1) = (k + n) + 1 from by omega, numsTo_in (h _ (by omega) (by omega)), numsTo_run n fun i h1 h2 => h i h1 (by omega), List.range_succ, List.map_append, List.append_assoc]
    rfl
/-- None of some is there. -/
theorem numsTo_gap {f : Nat → Bool} {k : Nat} : ∀ n, (∀ i, k ≤ i → i < k + n → f i = false) → numsTo f (k + n) = numsTo f k
  | 0, _ => rfl
  | n + 1, h => by
    rw [show k + (n + 1) = (k + n) + 1 from by omega, numsTo_out (h _ (by omega) (by omega)), numsTo_gap n fun i h1 h2 => h i h1 (by omega)]
/-- How many are there, below k. -/
def cntTo (f : Nat → Bool) (k : Nat) : Nat := (numsTo f k).length
theorem cntTo_in {f : Nat → Bool} {k : Nat} (h : f k = true) : cntTo f (k + 1) = cntTo f k + 1 := by unfold cntTo; rw [numsTo_in h, List.length_append]; rfl
theorem cntTo_out {f : Nat → Bool} {k : Nat} (h : f k = false) : cntTo f (k + 1) = cntTo f k := by unfold cntTo; rw [numsTo_out h]

/-- The lowest one from no on that is as asked, below n; -1 of none. -/
def lowB (f : Nat → Bool) (no : Int) (b : Bool) : Nat → Int
  | 0 => -1
  | n + 1 => if 0 ≤ lowB f no b n then lowB f no b n else if no ≤ n ∧ f n = b then n else -1
theorem lowB_none {f : Nat → Bool} {no : Int} {b : Bool} : ∀ {n : Nat}, (∀ i : Nat, i < n → ¬ (no ≤ i ∧ f i = b)) → lowB f no b n = -1
  | 0, _ => rfl
  | n + 1, h => by
    unfold lowB
    rw [lowB_none fun i hi => h i (by omega), if_neg (by decide), if_neg (h n (by omega))]
theorem lowB_first {f : Nat → Bool} {no : Int} {b : Bool} {k : Nat} (hk : no ≤ k ∧ f k = b) (h : ∀ i : Nat, i < k → ¬ (no ≤ i ∧ f i = b)) : ∀ {n : Nat}, k < n → lowB f no b n = k
  | 0, hn => by omega
  | n + 1, hn => by
    unfold lowB
    by_cases hkn : k = n
    · subst hkn
      rw [lowB_none h, if_neg (by decide), if_pos hk]
    · rw [lowB_first hk h (by omega), if_pos (by omega)]
theorem lowB_cases (f : Nat → Bool) (no : Int) (b : Bool) (n : Nat) : (lowB f no b n = -1 ∧ ∀ i : Nat, i < n → ¬ (no ≤ i ∧ f i = b)) ∨ ∃ k : Nat, k < n ∧ lowB f no b n = k ∧ (no ≤ k ∧ f k = b) ∧ ∀ i : Nat, i < k → ¬ (no ≤ i ∧ f i = b) := by
  induction n with
  | zero => exact .inl ⟨rfl, fun i hi => by omega⟩
  | succ n ih =>
    rcases ih with ⟨_, h⟩ | ⟨k, hk, _, h1, h2⟩
    · by_cases hc : no ≤ n ∧ f n = b
      · exact .inr ⟨n, by omega, lowB_first hc h (by omega), hc, h⟩
      · have hm : ∀ i : Nat, i < n + 1 → ¬ (no ≤ i ∧ f i = b) := fun i hi => by
          by_cases hin : i = n
          · subst hin; exact hc
          · exact h i (by omega)
        exact .inl ⟨lowB_none hm, hm⟩
    · exact .inr ⟨k, by omega, lowB_first h1 h2 (by omega), h1, h2⟩

/-- A byte of eight from i on, its highest t bits. -/
def accB (f : Nat → Bool) (i : Nat) : Nat → Nat
  | 0 => 0
  | t + 1 => 2 * accB f i t + (f (i + (7 - t))).toNat
theorem accB_lt (f : Nat → Bool) (i : Nat) : ∀ t, accB f i t < 2 ^ t
  | 0 => Nat.one_pos
  | t + 1 => by
    have := accB_lt f i t
    have hb : (f (i + (7 - t))).toNat ≤ 1 := Bool.toNat_le _
    unfold accB
    rw [Nat.pow_succ]
    omega
theorem accB_bit (f : Nat → Bool) (i : Nat) : ∀ t j, t ≤ 8 → j < t → (accB f i t).testBit j = f (i + (8 - t + j))
  | 0, _, _, h => by omega
  | t + 1, 0, ht, _ => by
    unfold accB
    rw [Nat.testBit_zero]
    rw [show 8 - (t + 1) + 0 = 7 - t from by omega]
    cases f (i + (7 - t)) <;> simp <;> omega
  | t + 1, j + 1, ht, h => by
    unfold accB
    rw [Nat.testBit_succ]
    have hb : (f (i + (7 - t))).toNat ≤ 1 := Bool.toNat_le _
    rw [show (2 * accB f i t + (f (i + (7 - t))).toNat) / 2 = accB f i t from by omega, accB_bit f i t j (by omega) (by omega)]
    congr 2
    omega
/-- A set's bytes. -/
def bytesB (f : Nat → Bool) (n : Nat) : List Nat := (List.range ((n + 7) / 8)).map fun i => accB f (8 * i) 8
theorem bytesB_len (f : Nat → Bool) (n : Nat) : (bytesB f n).length = (n + 7) / 8 := by simp [bytesB]
theorem bytesB_bytes (f : Nat → Bool) (n : Nat) : Bytes (bytesB f n) := by
  intro x hx
  obtain ⟨i, _, rfl⟩ := List.mem_map.1 hx
  exact accB_lt f (8 * i) 8
/-- Two of one byte, bit by bit. -/
theorem byte_ext {a b : Nat} (ha : a < 256) (hb : b < 256) (h : ∀ j, j < 8 → a.testBit j = b.testBit j) : a = b := by
  apply Nat.eq_of_testBit_eq
  intro j
  rcases Nat.lt_or_ge j 8 with hj | hj
  · exact h j hj
  · have h1 : (2 : Nat) ^ 8 ≤ 2 ^ j := Nat.pow_le_pow_right (by decide) hj
    rw [Nat.testBit_lt_two_pow (Nat.lt_of_lt_of_le ha h1), Nat.testBit_lt_two_pow (Nat.lt_of_lt_of_le hb h1)]

/-! Words of 64 bits. -/
def wbit (W : List Nat) (i : Nat) : Bool := (W.getD (i / 64) 0).testBit (i % 64)
theorem wbit_zeros (n i : Nat) : wbit (List.replicate n 0) i = false := by
  unfold wbit
  rw [List.getD_eq_getElem?_getD, List.getElem?_replicate]
  split <;> simp
theorem wbit_word {W : List Nat} {q : Nat} (hq : q < W.length) (x i : Nat) : wbit (W.set q x) i = if i / 64 = q then x.testBit (i % 64) else wbit W i := by
  unfold wbit
  simp only [List.getD_eq_getElem?_getD, List.getElem?_set]
  by_cases h : q = i / 64
  · subst h; simp [hq]
  · have : ¬ i / 64 = q := fun h' => h h'.symm
    simp [h, this]
theorem bit_one (k j : Nat) : (2 ^ k).testBit j = decide (k = j) := Nat.testBit_two_pow
theorem wbit_put {W : List Nat} {i : Nat} (h : i / 64 < W.length) (j : Nat) : wbit (W.set (i / 64) (W.getD (i / 64) 0 ||| 2 ^ (i % 64))) j = (decide (j = i) || wbit W j) := by
  rw [wbit_word h]
  by_cases hq : j / 64 = i / 64
  · rw [if_pos hq, Nat.testBit_or, bit_one]
    have e : (i % 64 = j % 64) = (j = i) := propext (by omega)
    unfold wbit
    rw [hq]
    simp only [e]
    exact Bool.or_comm _ _
  · rw [if_neg hq]
    have : ¬ j = i := fun h => hq (by rw [h])
    simp [this]
theorem word_put {x k : Nat} (hx : x < 2 ^ 64) (hk : k < 64) : x ||| 2 ^ k < 2 ^ 64 := Nat.or_lt_two_pow hx (Nat.pow_lt_pow_right (by decide) hk)
/-- A bit less. -/
theorem bit_less {x k : Nat} (hb : x.testBit k = true) (j : Nat) : (x ^^^ 2 ^ k).testBit j = (x.testBit j && !decide (k = j)) := by
  rw [Nat.testBit_xor, bit_one]
  by_cases h : k = j
  · subst h; simp [hb]
  · simp [h]
end Go.Inc
namespace Go.Inc
open Go.RowKit

theorem own_weaken {w : World} {b b' e s n : Nat} {v : Value} {x : List Value} (h : w.ownsRow b e s v n x) (hb : b' ≤ b) : w.ownsRow b' e s v n x :=
  ⟨h.1, h.2.imp id fun ⟨g, cap, cur, h1, h2, r⟩ => ⟨g, cap, cur, h1, Nat.le_trans hb h2, r⟩⟩
theorem own_cap {w : World} {B e n c m : Nat} {a : Option Addr} {x : List Value} (h : w.ownsRow B e 1 (.slice a n c) m x) : n ≤ c ∧ c ≤ maxLen := by
  rcases h.2 with ⟨h, _⟩ | ⟨g, cap', cur, h, _, _, h1, h2, _⟩
  · simp only [Value.slice.injEq] at h
    unfold maxLen
    omega
  · simp only [Value.slice.injEq] at h
    omega
theorem u8s_get {bs : List Nat} {k : Nat} (h : k < bs.length) : (u8s bs)[k]? = some (.int .u8 ((bs.getD k 0 : Nat) : Int)) := by
  rw [List.getD_eq_getElem?_getD, List.getElem?_eq_getElem h]
  simp [u8s, h]
theorem u8s_set (bs : List Nat) (k x : Nat) : (u8s bs).set k (.int .u8 (x : Int)) = u8s (bs.set k x) := by
  simp [u8s, List.map_set]

/-- A slice of bytes in a row of the call's own, above B. -/
def Row (E B : Nat) (w : World) (v : Value) (bs : List Nat) : Prop := w.ownsRow B E 1 v bs.length (u8s bs)
section
variable {E B B' : Nat} {w w' : World} {v : Value} {bs : List Nat}
theorem Row.nil (E B : Nat) (w : World) : Row E B w (.slice none 0 0) [] := World.ownsRow_nil _ _ _ _
theorem Row.weaken (h : Row E B w v bs) (hb : B' ≤ B) : Row E B' w v bs := own_weaken h hb
/-- What it looks like. -/
theorem Row.sl (h : Row E B w v bs) : ∃ a c, v = .slice a bs.length c ∧ (a = none → c = 0) ∧ bs.length ≤ c ∧ c ≤ maxLen ∧ Sl (fun b => B ≤ b) w a bs := by
  obtain ⟨a, c, rfl, _, hn, hs⟩ := Sl.owned h
  have hc := own_cap h
  exact ⟨a, c, rfl, hn, hc.1, hc.2, hs.mono fun _ h _ => h.1⟩
theorem Row.kept (h : Row E B w v bs) (hg : Below w.heap.size w w') : Row E B w' v bs := by
  have h' : w.grownBy w' none := ⟨hg.os, hg.tape, hg.output, hg.size, fun i hi _ => hg.block i hi⟩
  refine World.ownsRow.kept h h' ?_
  cases hv : v.ownBlock with
  | none => exact .inl rfl
  | some _ => exact .inr (by simp)
end

/-- A slice's address leads to these integers, in a block that is 'ok'. -/
def Si (ok : Nat → Prop) (w : World) (a : Option Addr) (zs : List Int) : Prop :=
  zs = [] ∨ ∃ b off, a = some ⟨b, off, none⟩ ∧ ok b ∧ ∀ i, i < zs.length → w.cell? ⟨b, off + i, none⟩ = some (.int .i64 (zs.getD i 0))
section
variable {ok ok' : Nat → Prop} {w w' : World} {a : Option Addr} {zs : List Int}
theorem Si.nil (ok : Nat → Prop) (w : World) (a : Option Addr) : Si ok w a [] := .inl rfl
theorem Si.mono (h : Si ok w a zs) (hk : ∀ b, ok b → b < w.heap.size → ok' b) : Si ok' w a zs := by
  rcases h with h | ⟨b, off, ha, hb, hc⟩
  · exact .inl h
  · by_cases h0 : zs = []
    · exact .inl h0
    · exact .inr ⟨b, off, ha, hk b hb (cell_lt (hc 0 (by cases zs <;> simp_all))), hc⟩
theorem Si.kept (h : Si ok w a zs) (hb : ∀ b, ok b → b < w.heap.size → w'.heap[b]? = w.heap[b]?) : Si ok w' a zs := by
  rcases h with h | ⟨b, off, rfl, hk, hc⟩
  · exact .inl h
  · by_cases h0 : zs = []
    · exact .inl h0
    · refine .inr ⟨b, off, rfl, hk, fun i hi => ?_⟩
      have h0 := hc 0 (by cases zs <;> simp_all)
      rw [← hc i hi]
      exact World.cell?_of_block (hb b hk (cell_lt h0))
theorem Si.below (h : Si ok w a zs) (hb : Below w.heap.size w w') : Si ok w' a zs := h.kept fun b _ hlt => hb.block b hlt
theorem Si.grown {r : Nat} (h : Si ok w a zs) (hg : w.grownBy w' (some r)) (hr : ∀ b, ok b → b ≠ r) : Si ok w' a zs :=
  h.kept fun b hk hlt => hg.block b hlt (by intro e; cases e; exact hr _ hk rfl)
theorem Si.front (h : Si ok w a zs) (k : Nat) : Si ok w a (zs.take k) := by
  rcases h with rfl | ⟨b, off, rfl, hk, hc⟩
  · left; simp
  · refine .inr ⟨b, off, rfl, hk, fun i hi => ?_⟩
    simp only [List.length_take] at hi
    rw [hc i (by omega), List.getD_eq_getElem?_getD, List.getD_eq_getElem?_getD, List.getElem?_take, if_pos (by omega)]
end
/-- What stands behind the first k bytes; at the end the address may be the old one. -/
theorem Sl.behind {ok : Nat → Prop} {w : World} {a : Option Addr} {bs : List Nat} (h : Sl ok w a bs) (k : Nat) (a' : Option Addr) (ha : k < bs.length → a' = a.map (·.add k)) : Sl ok w a' (bs.drop k) := by
  by_cases hk : k < bs.length
  · rcases h with rfl | ⟨b, off, rfl, hok, hc⟩
    · simp at hk
    · refine .inr ⟨b, off + k, by rw [ha hk]; simp [Addr.add], hok, fun i hi => ?_⟩
      simp only [List.length_drop] at hi
      rw [Nat.add_assoc, hc (k + i) (by omega), List.getD_eq_getElem?_getD, List.getD_eq_getElem?_getD, List.getElem?_drop]
  · left
    exact List.drop_eq_nil_of_le (by omega)
end Go.Inc
namespace Go.Inc
open Go.RowKit

def bvals (m : List Bool) : List Value := m.map Value.bool
theorem bvals_len (m : List Bool) : (bvals m).length = m.length := by simp [bvals]
theorem bvals_one (m : List Bool) : ∀ u ∈ bvals m, u.oneCell' = true := by
  intro u hu
  obtain ⟨_, _, rfl⟩ := List.mem_map.1 hu
  rfl
theorem bvals_set (m : List Bool) (i : Nat) (b : Bool) : (bvals m).set i (.bool b) = bvals (m.set i b) := by simp [bvals, List.map_set]
theorem bvals_get {m : List Bool} {i : Nat} (h : i < m.length) : (bvals m)[i]? = some (.bool (inB m i)) := by
  unfold inB
  rw [List.getD_eq_getElem?_getD, List.getElem?_eq_getElem h]
  simp [bvals, h]
theorem bvals_zeros (n : Nat) : (madeCells #[Value.bool false] n).toList = bvals (List.replicate n false) := by
  apply List.ext_getElem?
  intro i
  by_cases h : i < n
  · simp [madeCells, bvals, h, Nat.mod_one]
  · simp [madeCells, bvals, h]
theorem inB_zeros (n i : Nat) : inB (List.replicate n false) i = false := by
  unfold inB
  rw [List.getD_eq_getElem?_getD, List.getElem?_replicate]
  split <;> rfl

/-- A slice's address leads to these bools, in a block that is 'ok'. -/
def Bl (ok : Nat → Prop) (w : World) (a : Option Addr) (m : List Bool) : Prop := m = [] ∨ ∃ b o, a = some ⟨b, o, none⟩ ∧ ok b ∧ ∀ i, i < m.length → w.cell? ⟨b, o + i, none⟩ = some (.bool (inB m i))
section
variable {ok ok' : Nat → Prop} {w w' : World} {a : Option Addr} {m : List Bool} {B n : Nat} {v : Value} {e : TypeId}
theorem Bl.nil (ok : Nat → Prop) (w : World) (a : Option Addr) : Bl ok w a [] := .inl rfl
theorem Bl.mono (h : Bl ok w a m) (hk : ∀ b, ok b → b < w.heap.size → ok' b) : Bl ok' w a m := by
  rcases h with h | ⟨b, o, h1, h2, h3⟩
  · exact .inl h
  · by_cases hm : m = []
    · exact .inl hm
    · exact .inr ⟨b, o, h1, hk b h2 (cell_lt (h3 0 (List.length_pos_iff.2 hm))), h3⟩
theorem Bl.kept (h : Bl ok w a m) (hb : ∀ b, ok b → b < w.heap.size → w'.heap[b]? = w.heap[b]?) : Bl ok w' a m := by
  rcases h with h | ⟨b, o, h1, h2, h3⟩
  · exact .inl h
  · by_cases hm : m = []
    · exact .inl hm
    · have hbb := hb b h2 (cell_lt (h3 0 (List.length_pos_iff.2 hm)))
      exact .inr ⟨b, o, h1, h2, fun i hi => by
        have := h3 i hi
        simp only [World.cell?, hbb] at this ⊢
        exact this⟩
theorem Bl.below (h : Bl ok w a m) (hb : Below w.heap.size w w') : Bl ok w' a m := h.kept fun b _ hlt => hb.block b hlt
theorem Bl.owned (h : w.ownsRow B e 1 v n (bvals m)) : ∃ a c, v = .slice a m.length c ∧ n = m.length ∧ (a = none → c = 0) ∧ m.length ≤ c ∧ c ≤ maxLen ∧ Bl (fun b => B ≤ b) w a m := by
  have hn : n = m.length := by have := h.1; rw [bvals_len] at this; omega
  subst hn
  rcases h.2 with ⟨rfl, h0⟩ | ⟨g, cap, cur, rfl, hb, hg, hnc, hm, hcs, ht⟩
  · exact ⟨none, 0, by rw [h0], rfl, fun _ => rfl, by omega, Nat.zero_le _, .inl (List.eq_nil_of_length_eq_zero h0)⟩
  · refine ⟨_, cap, rfl, rfl, (fun h => by cases h), hnc, hm, .inr ⟨g, 0, rfl, hb, fun i hi => ?_⟩⟩
    have hc := h.cells (g := g) rfl i (.bool (inB m i)) (bvals_get hi)
    rwa [Addr.add_lit] at hc
end

/-- Numbers as cells. -/
def nvals (l : List Nat) : List Value := l.map fun x : Nat => Value.int .i64 (x : Int)
theorem nvals_len (l : List Nat) : (nvals l).length = l.length := by simp [nvals]
theorem nvals_snoc (l : List Nat) (x : Nat) : nvals (l ++ [x]) = nvals l ++ [.int .i64 (x : Int)] := by simp [nvals]
theorem nvals_get {l : List Nat} {i : Nat} (h : i < l.length) : (nvals l)[i]? = some (.int .i64 ((l.getD i 0 : Nat) : Int)) := by
  rw [List.getD_eq_getElem?_getD, List.getElem?_eq_getElem h]
  simp [nvals, h]
theorem Si.ownedN {w : World} {B n : Nat} {v : Value} {l : List Nat} {e : TypeId} (h : w.ownsRow B e 1 v n (nvals l)) : ∃ a c, v = .slice a l.length c ∧ n = l.length ∧ (a = none → c = 0) ∧ l.length ≤ c ∧ c ≤ maxLen ∧ Si (fun b => B ≤ b) w a (l.map fun x : Nat => (x : Int)) := by
  have hn : n = l.length := by have := h.1; rw [nvals_len] at this; omega
  subst hn
  rcases h.2 with ⟨rfl, h0⟩ | ⟨g, cap, cur, rfl, hb, hg, hnc, hm, hcs, ht⟩
  · refine ⟨none, 0, by rw [h0], rfl, fun _ => rfl, by omega, Nat.zero_le _, .inl ?_⟩
    rw [List.eq_nil_of_length_eq_zero h0]; rfl
  · refine ⟨_, cap, rfl, rfl, (fun h => by cases h), hnc, hm, .inr ⟨g, 0, rfl, hb, fun i hi => ?_⟩⟩
    rw [List.length_map] at hi
    have hc := h.cells (g := g) rfl i _ (nvals_get hi)
    rw [Addr.add_lit] at hc
    rw [hc]
    congr 2
    simp only [List.getD_eq_getElem?_getD, List.getElem?_map]
    cases l[i]? <;> rfl
end Go.Inc
namespace Go.Inc
open Go.RowKit
/-- How many codes two lists begin with alike. -/
def cmL : List Int → List Int → Nat
  | a :: as, b :: bs => if a = b then cmL as bs + 1 else 0
  | _, _ => 0
/-- Is a list less than another one? -/
def ltL : List Int → List Int → Bool
  | a :: as, b :: bs => decide (a < b) || (decide (a = b) && ltL as bs)
  | [], _ :: _ => true
  | _, [] => false
theorem ltL_irrefl : ∀ A : List Int, ltL A A = false
  | [] => rfl
  | a :: as => by
    show (decide (a < a) || (decide (a = a) && ltL as as)) = false
    rw [ltL_irrefl as]; simp
theorem ltL_cons (a b : Int) (as bs : List Int) : ltL (a :: as) (b :: bs) = true ↔ a < b ∨ (a = b ∧ ltL as bs = true) := by
  show (decide (a < b) || (decide (a = b) && ltL as bs)) = true ↔ _
  simp
theorem ltL_trans : ∀ {A B C : List Int}, ltL A B = true → ltL B C = true → ltL A C = true
  | [], [], _, h, _ => by cases h
  | [], _ :: _, [], _, h => by cases h
  | [], _ :: _, _ :: _, _, _ => rfl
  | _ :: _, [], _, h, _ => by cases h
  | _ :: _, _ :: _, [], _, h => by cases h
  | a :: as, b :: bs, c :: cs, h, k => by
    rw [ltL_cons] at h k ⊢
    rcases h with h | ⟨rfl, h⟩
    · rcases k with k | ⟨rfl, k⟩
      · exact .inl (by omega)
      · exact .inl h
    · rcases k with k | ⟨rfl, k⟩
      · exact .inl k
      · exact .inr ⟨rfl, ltL_trans h k⟩
theorem ltL_asymm {A B : List Int} (h : ltL A B = true) : ltL B A = false := by
  cases hb : ltL B A
  · rfl
  · have := ltL_trans h hb
    rw [ltL_irrefl] at this; cases this
theorem ltL_total : ∀ {A B : List Int}, A ≠ B → ltL A B = true ∨ ltL B A = true
  | [], [], h => absurd rfl h
  | [], _ :: _, _ => .inl rfl
  | _ :: _, [], _ => .inr rfl
  | a :: as, b :: bs, h => by
    rw [ltL_cons, ltL_cons]
    by_cases h1 : a < b
    · exact .inl (.inl h1)
    · by_cases h2 : b < a
      · exact .inr (.inl h2)
      · obtain rfl : a = b := by omega
        rcases ltL_total (A := as) (B := bs) (fun e => h (by rw [e])) with h3 | h3
        · exact .inl (.inr ⟨rfl, h3⟩)
        · exact .inr (.inr ⟨rfl, h3⟩)
theorem cmL_le : ∀ A B : List Int, cmL A B ≤ A.length ∧ cmL A B ≤ B.length
  | a :: as, b :: bs => by
    have := cmL_le as bs
    show (if a = b then cmL as bs + 1 else 0) ≤ _ ∧ (if a = b then cmL as bs + 1 else 0) ≤ _
    simp only [List.length_cons]
    split <;> omega
  | [], _ => ⟨Nat.zero_le _, Nat.zero_le _⟩
  | _ :: _, [] => ⟨Nat.zero_le _, Nat.zero_le _⟩
/-- They are alike so far. -/
theorem cmL_same : ∀ (A B : List Int) (i : Nat), i < cmL A B → A.getD i 0 = B.getD i 0
  | a :: as, b :: bs, i, h => by
    have h' : i < (if a = b then cmL as bs + 1 else 0) := h
    split at h'
    · rename_i e
      cases i with
      | zero => exact e
      | succ i => exact cmL_same as bs i (by omega)
    · omega
  | [], _, _, h => by cases h
  | _ :: _, [], _, h => by cases h
/-- And then they aren't, or one has ended. -/
theorem cmL_next : ∀ (A B : List Int), cmL A B < A.length → cmL A B < B.length → A.getD (cmL A B) 0 ≠ B.getD (cmL A B) 0
  | a :: as, b :: bs, h1, h2 => by
    by_cases e : a = b
    · have he : cmL (a :: as) (b :: bs) = cmL as bs + 1 := by show (if a = b then _ else _) = _; rw [if_pos e]
      rw [he] at h1 h2 ⊢
      exact cmL_next as bs (by simpa using h1) (by simpa using h2)
    · have he : cmL (a :: as) (b :: bs) = 0 := by show (if a = b then _ else _) = _; rw [if_neg e]
      rw [he]
      exact e
  | [], _, h, _ => by simp at h
  | _ :: _, [], _, h => by simp at h
/-- Where it stops is told by this. -/
theorem cmL_is {A B : List Int} {n : Nat} (h1 : ∀ i, i < n → i < A.length ∧ i < B.length ∧ A.getD i 0 = B.getD i 0) (h2 : ¬ (n < A.length ∧ n < B.length ∧ A.getD n 0 = B.getD n 0)) : cmL A B = n := by
  rcases Nat.lt_trichotomy (cmL A B) n with h | h | h
  · have h3 := h1 _ h
    exact absurd h3.2.2 (cmL_next A B h3.1 h3.2.1)
  · exact h
  · have h3 := cmL_le A B
    exact absurd ⟨by omega, by omega, cmL_same A B n h⟩ h2
/-- The last one is 0, no other one is. -/
def RtL (A : List Int) : Prop := 0 < A.length ∧ ∀ i, i < A.length → (A.getD i 0 = 0 ↔ i + 1 = A.length)
theorem RtL.tail {a b : Int} {as : List Int} (h : RtL (a :: b :: as)) : a ≠ 0 ∧ RtL (b :: as) := by
  refine ⟨fun e => ?_, by simp, fun i hi => ?_⟩
  · have := (h.2 0 (by simp)).1 e
    simp at this
  · have := h.2 (i + 1) (by simpa using hi)
    have e1 : (a :: b :: as).getD (i + 1) 0 = (b :: as).getD i 0 := rfl
    rw [e1] at this
    rw [this]
    simp
theorem RtL.one {a : Int} (h : RtL [a]) : a = 0 := (h.2 0 (by simp)).2 rfl
/-- Two of unlike lengths part ahead of their ends. -/
theorem RtL.part : ∀ {A B : List Int}, RtL A → RtL B → A.length ≠ B.length → cmL A B < A.length ∧ cmL A B < B.length
  | [], _, h, _, _ => by have := h.1; simp at this
  | _ :: _, [], _, h, _ => by have := h.1; simp at this
  | [a], [b], _, _, h => absurd rfl h
  | [a], b :: b' :: bs, h, k, _ => by
    have h1 := h.one
    have h2 := k.tail.1
    have he : cmL [a] (b :: b' :: bs) = 0 := by show (if a = b then _ else _) = _; rw [if_neg (by rw [h1]; exact fun e => h2 e.symm)]
    rw [he]; simp
  | a :: a' :: as, [b], h, k, _ => by
    have h1 := k.one
    have h2 := h.tail.1
    have he : cmL (a :: a' :: as) [b] = 0 := by show (if a = b then _ else _) = _; rw [if_neg (by rw [h1]; exact h2)]
    rw [he]; simp
  | a :: a' :: as, b :: b' :: bs, h, k, hl => by
    by_cases e : a = b
    · have he : cmL (a :: a' :: as) (b :: b' :: bs) = cmL (a' :: as) (b' :: bs) + 1 := by show (if a = b then _ else _) = _; rw [if_pos e]
      have h3 := RtL.part h.tail.2 k.tail.2 (fun e2 => hl (by simpa using e2))
      rw [he]
      simp only [List.length_cons] at h3 ⊢
      omega
    · have he : cmL (a :: a' :: as) (b :: b' :: bs) = 0 := by show (if a = b then _ else _) = _; rw [if_neg e]
      rw [he]; simp
theorem ltL_at : ∀ {A B : List Int}, cmL A B < A.length → cmL A B < B.length → ltL A B = decide (A.getD (cmL A B) 0 < B.getD (cmL A B) 0)
  | [], _, h, _ => by simp at h
  | _ :: _, [], _, h => by simp at h
  | a :: as, b :: bs, h1, h2 => by
    by_cases e : a = b
    · have he : cmL (a :: as) (b :: bs) = cmL as bs + 1 := by show (if a = b then _ else _) = _; rw [if_pos e]
      rw [he] at h1 h2 ⊢
      show (decide (a < b) || (decide (a = b) && ltL as bs)) = decide (as.getD (cmL as bs) 0 < bs.getD (cmL as bs) 0)
      rw [ltL_at (by simpa using h1) (by simpa using h2), decide_eq_true e, decide_eq_false (by omega), Bool.false_or, Bool.true_and]
    · have he : cmL (a :: as) (b :: bs) = 0 := by show (if a = b then _ else _) = _; rw [if_neg e]
      rw [he]
      show (decide (a < b) || (decide (a = b) && ltL as bs)) = decide (a < b)
      rw [decide_eq_false e, Bool.false_and, Bool.or_false]
/-- Places of a text. -/
def cmT (x : List Int) (a b : Nat) : Nat := cmL (x.drop a) (x.drop b)
def lsT (x : List Int) (a b : Nat) : Bool := ltL (x.drop a) (x.drop b)
theorem drop_get {x : List Int} (a i : Nat) : (x.drop a).getD i 0 = x.getD (a + i) 0 := by
  rw [List.getD_eq_getElem?_getD, List.getElem?_drop, List.getD_eq_getElem?_getD]
theorem RtL.drop {x : List Int} (h : RtL x) {a : Nat} (ha : a < x.length) : RtL (x.drop a) := by
  refine ⟨by rw [List.length_drop]; omega, fun i hi => ?_⟩
  rw [List.length_drop] at hi
  rw [drop_get, h.2 (a + i) (by omega), List.length_drop]
  omega
/-- Two places of a text part within it. -/
theorem cmT_part {x : List Int} (h : RtL x) {a b : Nat} (ha : a < x.length) (hb : b < x.length) (hab : a ≠ b) : a + cmT x a b < x.length ∧ b + cmT x a b < x.length := by
  have := RtL.part (h.drop ha) (h.drop hb) (by rw [List.length_drop, List.length_drop]; omega)
  rw [List.length_drop, List.length_drop] at this
  unfold cmT
  omega
theorem lsT_at {x : List Int} (h : RtL x) {a b : Nat} (ha : a < x.length) (hb : b < x.length) (hab : a ≠ b) : lsT x a b = decide (x.getD (a + cmT x a b) 0 < x.getD (b + cmT x a b) 0) := by
  have h1 := RtL.part (h.drop ha) (h.drop hb) (by rw [List.length_drop, List.length_drop]; omega)
  unfold lsT
  rw [ltL_at h1.1 h1.2, drop_get, drop_get]
  rfl
theorem lsT_irrefl (x : List Int) (a : Nat) : lsT x a a = false := ltL_irrefl _
theorem lsT_trans {x : List Int} {a b c : Nat} (h : lsT x a b = true) (k : lsT x b c = true) : lsT x a c = true := ltL_trans h k
theorem lsT_asymm {x : List Int} {a b : Nat} (h : lsT x a b = true) : lsT x b a = false := ltL_asymm h
theorem lsT_total {x : List Int} {a b : Nat} (ha : a < x.length) (hb : b < x.length) (hab : a ≠ b) : lsT x a b = true ∨ lsT x b a = true :=
  ltL_total fun e => by
    have := congrArg List.length e
    rw [List.length_drop, List.length_drop] at this
    omega
/-- Where the loop that counts stops. -/
theorem cmT_is {x : List Int} {a b n : Nat} (h1 : ∀ i, i < n → a + i < x.length ∧ b + i < x.length ∧ x.getD (a + i) 0 = x.getD (b + i) 0) (h2 : ¬ (a + n < x.length ∧ b + n < x.length ∧ x.getD (a + n) 0 = x.getD (b + n) 0)) : cmT x a b = n := by
  refine cmL_is (fun i hi => ?_) fun h => h2 ?_
  · have := h1 i hi
    rw [List.length_drop, List.length_drop, drop_get, drop_get]
    exact ⟨by omega, by omega, this.2.2⟩
  · rw [List.length_drop, List.length_drop, drop_get, drop_get] at h
    exact ⟨by omega, by omega, h.2.2⟩
instance (x : List Int) : Decidable (RtL x) := inferInstanceAs (Decidable (_ ∧ _))
/-- What is wrong with a text. -/
def ckT (x : List Int) : Nat := if 65536 < x.length then 2 else if ¬ (∀ z ∈ x, 0 ≤ z ∧ z ≤ 65535) then 10 else if RtL x then 0 else 3
theorem ckT_zero {x : List Int} (h : ckT x = 0) : x.length ≤ 65536 ∧ (∀ z ∈ x, 0 ≤ z ∧ z ≤ 65535) ∧ RtL x := by
  unfold ckT at h
  split at h
  · cases h
  · split at h
    · cases h
    · rename_i h1 h2
      split at h
      · rename_i h3; exact ⟨by omega, by simpa using h2, h3⟩
      · cases h
/-- The kinds. -/
def kdT (x : List Int) (i : Nat) : Bool := decide (i + 1 = x.length) || lsT x i (i + 1)
def kindsT (x : List Int) : List Bool := (List.range x.length).map (kdT x)
/-- The first Ss below n. -/
def fsT (x : List Int) : Nat → List Nat
  | 0 => []
  | n + 1 => if 0 < n ∧ kdT x n = true ∧ kdT x (n - 1) = false then fsT x n ++ [n] else fsT x n
/-- The order, place by place. -/
def insT (x : List Int) (l : List Nat) (i : Nat) : List Nat := l.takeWhile (fun j => lsT x j i) ++ i :: l.dropWhile (fun j => lsT x j i)
def srT (x : List Int) : Nat → List Nat
  | 0 => []
  | n + 1 => insT x (srT x n) n
theorem insT_mem {x : List Int} {l : List Nat} {i j : Nat} : j ∈ insT x l i ↔ j = i ∨ j ∈ l := by
  unfold insT
  rw [List.mem_append, List.mem_cons]
  conv => rhs; rw [← List.takeWhile_append_dropWhile (p := fun j => lsT x j i) (l := l), List.mem_append]
  constructor
  · rintro (h | h | h)
    · exact .inr (.inl h)
    · exact .inl h
    · exact .inr (.inr h)
  · rintro (h | h | h)
    · exact .inr (.inl h)
    · exact .inl h
    · exact .inr (.inr h)
theorem insT_len {x : List Int} {l : List Nat} {i : Nat} : (insT x l i).length = l.length + 1 := by
  unfold insT
  have := congrArg List.length (List.takeWhile_append_dropWhile (p := fun j => lsT x j i) (l := l))
  rw [List.length_append] at this
  rw [List.length_append, List.length_cons]
  omega
theorem srT_mem {x : List Int} : ∀ {n j : Nat}, j ∈ srT x n ↔ j < n
  | 0, j => by simp [srT]
  | n + 1, j => by
    show j ∈ insT x (srT x n) n ↔ _
    rw [insT_mem, srT_mem]
    omega
theorem srT_len {x : List Int} : ∀ n, (srT x n).length = n
  | 0 => rfl
  | n + 1 => by
    show (insT x (srT x n) n).length = _
    rw [insT_len, srT_len]
theorem insT_sorted {x : List Int} {l : List Nat} {i : Nat} (h : l.Pairwise fun a b => lsT x a b = true) (ht : ∀ j ∈ l, lsT x j i = true ∨ lsT x i j = true) : (insT x l i).Pairwise fun a b => lsT x a b = true := by
  induction l with
  | nil => exact List.pairwise_singleton _ _
  | cons a l ih =>
    rw [List.pairwise_cons] at h
    unfold insT
    by_cases ha : lsT x a i = true
    · rw [List.takeWhile_cons_of_pos (p := fun j => lsT x j i) ha, List.dropWhile_cons_of_pos (p := fun j => lsT x j i) ha, List.cons_append, List.pairwise_cons]
      refine ⟨fun b hb => ?_, ih h.2 fun j hj => ht j (List.mem_cons_of_mem _ hj)⟩
      have hb2 : b ∈ insT x l i := hb
      rcases insT_mem.1 hb2 with rfl | hb2
      · exact ha
      · exact h.1 b hb2
    · rw [List.takeWhile_cons_of_neg (p := fun j => lsT x j i) ha, List.dropWhile_cons_of_neg (p := fun j => lsT x j i) ha, List.nil_append, List.pairwise_cons]
      have hia : lsT x i a = true := (ht a (by simp)).resolve_left ha
      refine ⟨fun b hb => ?_, by rw [List.pairwise_cons]; exact h⟩
      rcases List.mem_cons.1 hb with rfl | hb
      · exact hia
      · exact lsT_trans hia (h.1 b hb)
theorem srT_sorted {x : List Int} : ∀ {n : Nat}, n ≤ x.length → (srT x n).Pairwise fun a b => lsT x a b = true
  | 0, _ => List.Pairwise.nil
  | n + 1, h => insT_sorted (srT_sorted (by omega)) fun j hj => by
    have := srT_mem.1 hj
    exact lsT_total (by omega) (by omega) (by omega)
/-- Two rising lists of the same places are one. -/
theorem rise_one {x : List Int} : ∀ {l k : List Nat}, (l.Pairwise fun a b => lsT x a b = true) → (k.Pairwise fun a b => lsT x a b = true) → (∀ j, j ∈ l ↔ j ∈ k) → l = k
  | [], [], _, _, _ => rfl
  | [], b :: k, _, _, h => by have := (h b).2 (by simp); cases this
  | a :: l, [], _, _, h => by have := (h a).1 (by simp); cases this
  | a :: l, b :: k, hl, hk, h => by
    rw [List.pairwise_cons] at hl hk
    have hab : a = b := by
      apply Classical.byContradiction
      intro e
      have h1 : b ∈ l := by
        rcases List.mem_cons.1 ((h b).2 (by simp)) with h1 | h1
        · exact absurd h1.symm e
        · exact h1
      have h2 : a ∈ k := by
        rcases List.mem_cons.1 ((h a).1 (by simp)) with h1 | h1
        · exact absurd h1 e
        · exact h1
      have h3 := lsT_asymm (hl.1 b h1)
      rw [hk.1 a h2] at h3
      cases h3
    subst hab
    congr 1
    refine rise_one hl.2 hk.2 fun j => ?_
    have hj := h j
    constructor
    · intro h1
      rcases List.mem_cons.1 (hj.1 (List.mem_cons_of_mem _ h1)) with rfl | h2
      · have := hl.1 j h1; rw [lsT_irrefl] at this; cases this
      · exact h2
    · intro h1
      rcases List.mem_cons.1 (hj.2 (List.mem_cons_of_mem _ h1)) with rfl | h2
      · have := hk.1 j h1; rw [lsT_irrefl] at this; cases this
      · exact h2
/-- The order is the one list of all places that rises. -/
theorem srT_is {x : List Int} {l : List Nat} (h1 : l.Pairwise fun a b => lsT x a b = true) (h2 : ∀ j, j ∈ l ↔ j < x.length) : l = srT x x.length :=
  rise_one h1 (srT_sorted (Nat.le_refl _)) fun j => by rw [h2, srT_mem]
/-- The last place is the first one in order. -/
theorem srT_head {x : List Int} (h : ckT x = 0) : (srT x x.length).getD 0 0 = x.length - 1 := by
  obtain ⟨_, hz, hr⟩ := ckT_zero h
  have hp := hr.1
  have hs := srT_sorted (x := x) (Nat.le_refl _)
  have hl := srT_len (x := x) x.length
  have hm : x.length - 1 ∈ srT x x.length := srT_mem.2 (by omega)
  cases hh : srT x x.length with
  | nil => rw [hh] at hl; simp at hl; omega
  | cons a l =>
    rw [hh] at hs hm
    rw [List.pairwise_cons] at hs
    show a = x.length - 1
    rcases List.mem_cons.1 hm with e | hm
    · exact e.symm
    · have h1 := hs.1 _ hm
      have ha : a < x.length := srT_mem.1 (by rw [hh]; simp)
      by_cases e : a = x.length - 1
      · exact e
      · have h2 : lsT x (x.length - 1) a = true := by
          have hd : x.drop (x.length - 1) = [0] := by
            rw [List.drop_eq_getElem_cons (by omega)]
            have h3 := (hr.2 (x.length - 1) (by omega)).2 (by omega)
            rw [List.getD_eq_getElem?_getD, List.getElem?_eq_getElem (by omega)] at h3
            have h4 : x[x.length - 1] = 0 := h3
            rw [h4, List.drop_of_length_le (by omega)]
          have h3 : x.drop a = x.getD a 0 :: x.drop (a + 1) := by
            rw [List.drop_eq_getElem_cons ha, List.getD_eq_getElem?_getD, List.getElem?_eq_getElem ha]; rfl
          have h4 : x.getD a 0 ≠ 0 := fun e2 => by have := (hr.2 a ha).1 e2; omega
          have h5 : 0 ≤ x.getD a 0 := by
            rw [List.getD_eq_getElem?_getD, List.getElem?_eq_getElem ha]
            exact (hz _ (List.getElem_mem ha)).1
          unfold lsT
          rw [hd, h3, ltL_cons]
          exact .inl (by omega)
        rw [lsT_asymm h1] at h2; cases h2
theorem nodup_rise {x : List Int} {l : List Nat} (h : l.Pairwise fun a b => lsT x a b = true) : l.Nodup := by
  refine h.imp fun {a b} hab e => ?_
  subst e
  rw [lsT_irrefl] at hab; cases hab
end Go.Inc
namespace Go.Inc
theorem nodup_le : ∀ {l m : List Nat}, l.Nodup → (∀ x ∈ l, x ∈ m) → l.length ≤ m.length
  | [], _, _, _ => Nat.zero_le _
  | x :: l, m, hn, h => by
    rw [List.nodup_cons] at hn
    have hx := h x (by simp)
    have h1 := nodup_le (l := l) (m := m.erase x) hn.2 fun y hy => by
      have hne : y ≠ x := fun e => hn.1 (e ▸ hy)
      exact (List.mem_erase_of_ne hne).2 (h y (List.mem_cons_of_mem _ hy))
    rw [List.length_erase_of_mem hx] at h1
    have := List.length_pos_of_mem hx
    rw [List.length_cons]
    omega
theorem nodup_map {f : Nat → Nat} {N : Nat} (h : ∀ a b, a < N → b < N → f a = f b → a = b) : ((List.range N).map f).Nodup := by
  rw [List.nodup_iff_pairwise_ne, List.pairwise_map]
  refine (List.pairwise_lt_range (n := N)).imp_of_mem fun {a b} ha hb hab e => ?_
  have := h a b (List.mem_range.1 ha) (List.mem_range.1 hb) e
  omega
def updF {α : Type} (f : Nat → α) (i : Nat) (v : α) : Nat → α := fun j => if j = i then v else f j
theorem updF_at {α : Type} (f : Nat → α) (i : Nat) (v : α) : updF f i v i = v := if_pos rfl
theorem updF_ne {α : Type} (f : Nat → α) {i j : Nat} (v : α) (h : j ≠ i) : updF f i v j = f j := if_neg h
/-- How many places have a code. -/
def szC (n : Nat) (c : Nat → Nat) (s : Nat) : Nat := ((List.range n).filter fun i => c i == s).length
/-- What a scan works on: buckets that lie apart; a place that is put is put behind the one that puts it. -/
structure Scan (n : Nat) (c : Nat → Nat) (ins : Nat → Bool) (st : Nat → Nat) : Prop where
  in_ : ∀ s, st s + szC n c s ≤ n
  apart : ∀ s s', s ≠ s' → st s + szC n c s ≤ st s' ∨ st s' + szC n c s' ≤ st s
  next : ∀ j, j < n → ins j = true → j + 1 < n ∧ (c (j + 1) ≠ c j → st (c (j + 1)) + szC n c (c (j + 1)) ≤ st (c j)) ∧ (c (j + 1) = c j → ins (j + 1) = true)
/-- What the order that comes of it is by. -/
structure ScanR (n : Nat) (c : Nat → Nat) (ins : Nat → Bool) (st : Nat → Nat) (R : Nat → Nat → Prop) : Prop where
  code : ∀ i j, i < n → j < n → c i ≠ c j → st (c i) + szC n c (c i) ≤ st (c j) → R i j
  kind : ∀ i j, i < n → j < n → c i = c j → ins i = true → ins j = false → R i j
  step : ∀ i j, i < n → j < n → c i = c j → ins i = true → ins j = true → R (i + 1) (j + 1) → R i j
abbrev ScSt := (Nat → Option Nat) × (Nat → Nat)
def scStep (c : Nat → Nat) (ins : Nat → Bool) (st : Nat → Nat) (o : ScSt) (k : Nat) : ScSt :=
  match o.1 k with
  | some i => if 0 < i ∧ ins (i - 1) = true then (updF o.1 (st (c (i - 1)) + o.2 (c (i - 1))) (some (i - 1)), updF o.2 (c (i - 1)) (o.2 (c (i - 1)) + 1)) else o
  | none => o
def scan (c : Nat → Nat) (ins : Nat → Bool) (st : Nat → Nat) (a0 : Nat → Option Nat) : Nat → ScSt
  | 0 => (a0, fun _ => 0)
  | k + 1 => scStep c ins st (scan c ins st a0 k) k
/-- What holds of it after k places. -/
structure ScanI (n : Nat) (c : Nat → Nat) (ins : Nat → Bool) (st m : Nat → Nat) (R : Nat → Nat → Prop) (a : Nat → Option Nat) (q : Nat → Nat) (k : Nat) : Prop where
  fit : ∀ s, q s + m s ≤ szC n c s
  low : ∀ s t, t < q s → ∃ i, a (st s + t) = some i ∧ i < n ∧ c i = s ∧ ins i = true
  mid : ∀ s t, q s ≤ t → t < szC n c s - m s → a (st s + t) = none
  top : ∀ s t, szC n c s - m s ≤ t → t < szC n c s → ∃ i, a (st s + t) = some i ∧ i < n ∧ c i = s ∧ ins i = false
  out : ∀ p i, a p = some i → ∃ s t, t < szC n c s ∧ p = st s + t
  inj : ∀ p p' i, a p = some i → a p' = some i → p = p'
  prev : ∀ p j, a p = some j → ins j = true → ∃ p', p' < k ∧ p' < p ∧ a p' = some (j + 1)
  done : ∀ p j, p < k → a p = some (j + 1) → ins j = true → ∃ p', a p' = some j
  sort : ∀ p p' i i', p < p' → a p = some i → a p' = some i' → R i i'
section
variable {n : Nat} {c : Nat → Nat} {ins : Nat → Bool} {st m : Nat → Nat} {R : Nat → Nat → Prop} {a : Nat → Option Nat} {q : Nat → Nat} {k : Nat}
/-- Where a place stands. -/
theorem ScanI.at_ (h : ScanI n c ins st m R a q k) {p i : Nat} (ha : a p = some i) :
    i < n ∧ ∃ t, t < szC n c (c i) ∧ p = st (c i) + t ∧ (ins i = true → t < q (c i)) ∧ (ins i = false → szC n c (c i) - m (c i) ≤ t) := by
  obtain ⟨s, t, ht, rfl⟩ := h.out p i ha
  have hf := h.fit s
  by_cases h1 : t < q s
  · obtain ⟨i', h2, h3, h4, h5⟩ := h.low s t h1
    rw [ha] at h2; cases h2
    subst h4
    exact ⟨h3, t, ht, rfl, (fun _ => h1), (fun h6 => by rw [h5] at h6; cases h6)⟩
  · by_cases h2 : t < szC n c s - m s
    · have := h.mid s t (by omega) h2
      rw [ha] at this; cases this
    · obtain ⟨i', h3, h4, h5, h6⟩ := h.top s t (by omega) ht
      rw [ha] at h3; cases h3
      subst h5
      exact ⟨h4, t, ht, rfl, (fun h7 => by rw [h6] at h7; cases h7), (fun _ => by omega)⟩
theorem ScanI.lt (hs : Scan n c ins st) (h : ScanI n c ins st m R a q k) {p i : Nat} (ha : a p = some i) : p < n := by
  obtain ⟨-, t, ht, rfl, -, -⟩ := h.at_ ha
  have := hs.in_ (c i)
  omega
/-- There is room for one more. -/
theorem ScanI.room (h : ScanI n c ins st m R a q k) {j : Nat} (hj : j < n) (hno : ∀ p, a p ≠ some j) : q (c j) + m (c j) < szC n c (c j) := by
  obtain ⟨s, hse⟩ : ∃ s, s = c j := ⟨_, rfl⟩
  rw [← hse]
  have hf := h.fit s
  let pos : Nat → Nat := fun t => if t < q s then st s + t else st s + (szC n c s - m s) + (t - q s)
  have hv : ∀ t, t < q s + m s → ∃ i, a (pos t) = some i ∧ i < n ∧ c i = s := fun t ht => by
    by_cases h1 : t < q s
    · obtain ⟨i, h2, h3, h4, -⟩ := h.low s t h1
      exact ⟨i, by show a (if t < q s then _ else _) = _; rw [if_pos h1]; exact h2, h3, h4⟩
    · obtain ⟨i, h2, h3, h4, -⟩ := h.top s (szC n c s - m s + (t - q s)) (by omega) (by omega)
      refine ⟨i, ?_, h3, h4⟩
      show a (if t < q s then _ else _) = _
      rw [if_neg h1, Nat.add_assoc]; exact h2
  have hp : ∀ t t', t < q s + m s → t' < q s + m s → pos t = pos t' → t = t' := fun t t' ht ht' e => by
    have e' : (if t < q s then st s + t else st s + (szC n c s - m s) + (t - q s)) = (if t' < q s then st s + t' else st s + (szC n c s - m s) + (t' - q s)) := e
    split at e' <;> split at e' <;> omega
  let val : Nat → Nat := fun t => (a (pos t)).getD 0
  have hl := nodup_le (l := j :: (List.range (q s + m s)).map val) (m := (List.range n).filter fun i => c i == s) (by
    rw [List.nodup_cons]
    refine ⟨fun hm => ?_, nodup_map fun t t' ht ht' e => ?_⟩
    · obtain ⟨t, ht, e⟩ := List.mem_map.1 hm
      obtain ⟨i, h1, -⟩ := hv t (List.mem_range.1 ht)
      have e2 : (a (pos t)).getD 0 = j := e
      rw [h1] at e2
      exact hno _ (by rw [h1, ← e2]; rfl)
    · obtain ⟨i, h1, -⟩ := hv t ht
      obtain ⟨i', h1', -⟩ := hv t' ht'
      have e2 : (a (pos t)).getD 0 = (a (pos t')).getD 0 := e
      rw [h1, h1'] at e2
      have e3 : i = i' := e2
      subst e3
      exact hp t t' ht ht' (h.inj _ _ i h1 h1')) (fun x hx => by
    rw [List.mem_filter, List.mem_range]
    rcases List.mem_cons.1 hx with rfl | hx
    · exact ⟨hj, by rw [hse]; simp⟩
    · obtain ⟨t, ht, e⟩ := List.mem_map.1 hx
      obtain ⟨i, h1, h2, h3⟩ := hv t (List.mem_range.1 ht)
      have e2 : (a (pos t)).getD 0 = x := e
      rw [h1] at e2
      have e3 : i = x := e2
      subst e3
      exact ⟨h2, by simp [h3]⟩)
  rw [List.length_cons, List.length_map, List.length_range] at hl
  exact hl
theorem ScanI.step (hs : Scan n c ins st) (hr : ScanR n c ins st R) (h : ScanI n c ins st m R a q k) :
    ScanI n c ins st m R (scStep c ins st (a, q) k).1 (scStep c ins st (a, q) k).2 (k + 1) := by
  cases hk : a k with
  | none =>
    have e0 : scStep c ins st (a, q) k = (a, q) := by simp only [scStep, hk]
    rw [e0]
    show ScanI n c ins st m R a q (k + 1)
    exact ⟨h.fit, h.low, h.mid, h.top, h.out, h.inj, (fun p j h1 h2 => by
      obtain ⟨p', h3, h4⟩ := h.prev p j h1 h2
      exact ⟨p', by omega, h4⟩), (fun p j h1 h2 h3 => by
      by_cases e : p = k
      · subst e; rw [hk] at h2; cases h2
      · exact h.done p j (by omega) h2 h3), h.sort⟩
  | some i =>
    by_cases hi : 0 < i ∧ ins (i - 1) = true
    · have e0 : scStep c ins st (a, q) k = (updF a (st (c (i - 1)) + q (c (i - 1))) (some (i - 1)), updF q (c (i - 1)) (q (c (i - 1)) + 1)) := by simp only [scStep, hk, if_pos hi]
      rw [e0]
      clear e0
      obtain ⟨j, rfl⟩ : ∃ j, i = j + 1 := ⟨i - 1, by omega⟩
      rw [Nat.add_sub_cancel] at hi ⊢
      obtain ⟨-, hj⟩ := hi
      obtain ⟨hin, t0, ht0, hkt, hq0, -⟩ := h.at_ hk
      have hjn : j < n := by omega
      obtain ⟨-, hn1, hn2⟩ := hs.next j hjn hj
      have hno : ∀ p, a p ≠ some j := fun p hp => by
        obtain ⟨p', h1, h2, h3⟩ := h.prev p j hp hj
        have := h.inj p' k (j + 1) h3 hk
        omega
      have hroom := h.room hjn hno
      obtain ⟨s, hse⟩ : ∃ s, s = c j := ⟨_, rfl⟩
      rw [← hse] at hroom hn1 hn2 ⊢
      obtain ⟨p0, hp0⟩ : ∃ p0, p0 = st s + q s := ⟨_, rfl⟩
      rw [← hp0]
      have hkp : k < p0 := by
        by_cases e : c (j + 1) = s
        · have := hq0 (hn2 e)
          rw [e] at this hkt
          omega
        · have := hn1 e
          omega
      have hnone : a p0 = none := by rw [hp0]; exact h.mid s (q s) (Nat.le_refl _) (by omega)
      have hfar : ∀ s' t, s' ≠ s → t < szC n c s' → st s' + t ≠ p0 := fun s' t hne ht e => by
        rcases hs.apart s' s hne with h1 | h1 <;> omega
      show ScanI n c ins st m R (updF a p0 (some j)) (updF q s (q s + 1)) (k + 1)
      refine ⟨fun s' => ?_, fun s' t ht => ?_, fun s' t h1 h2 => ?_, fun s' t h1 h2 => ?_, fun p i ha => ?_, fun p p' i h1 h2 => ?_, fun p j' h1 h2 => ?_, fun p j' h1 h2 h3 => ?_, fun p p' i i' hpp h1 h2 => ?_⟩
      · by_cases e : s' = s
        · subst e; rw [updF_at]; omega
        · rw [updF_ne _ _ e]; exact h.fit s'
      · by_cases e : s' = s
        · subst e
          rw [updF_at] at ht
          by_cases e2 : t = q s'
          · subst e2
            exact ⟨j, by rw [← hp0, updF_at], hjn, hse.symm, hj⟩
          · rw [updF_ne _ _ (by omega)]
            exact h.low s' t (by omega)
        · rw [updF_ne _ _ e] at ht
          rw [updF_ne _ _ (hfar s' t e (by have := h.fit s'; omega))]
          exact h.low s' t ht
      · by_cases e : s' = s
        · subst e
          rw [updF_at] at h1
          rw [updF_ne _ _ (by omega)]
          exact h.mid s' t (by omega) h2
        · rw [updF_ne _ _ e] at h1
          rw [updF_ne _ _ (hfar s' t e (by omega))]
          exact h.mid s' t h1 h2
      · have : st s' + t ≠ p0 := by
          by_cases e : s' = s
          · subst e; omega
          · exact hfar s' t e h2
        rw [updF_ne _ _ this]
        exact h.top s' t h1 h2
      · by_cases e : p = p0
        · exact ⟨s, q s, by omega, by rw [e, hp0]⟩
        · rw [updF_ne _ _ e] at ha
          exact h.out p i ha
      · by_cases e : p = p0
        · by_cases e' : p' = p0
          · rw [e, e']
          · rw [e, updF_at] at h1
            rw [updF_ne _ _ e'] at h2
            cases h1
            exact absurd h2 (hno p')
        · rw [updF_ne _ _ e] at h1
          by_cases e' : p' = p0
          · rw [e', updF_at] at h2
            cases h2
            exact absurd h1 (hno p)
          · rw [updF_ne _ _ e'] at h2
            exact h.inj p p' i h1 h2
      · by_cases e : p = p0
        · rw [e, updF_at] at h1
          cases h1
          exact ⟨k, by omega, by omega, by rw [updF_ne _ _ (by omega)]; exact hk⟩
        · rw [updF_ne _ _ e] at h1
          obtain ⟨p', h3, h4, h5⟩ := h.prev p j' h1 h2
          exact ⟨p', by omega, h4, by rw [updF_ne _ _ (by omega)]; exact h5⟩
      · rw [updF_ne _ _ (by omega)] at h2
        by_cases e : p = k
        · subst e
          rw [hk] at h2
          cases h2
          exact ⟨p0, updF_at _ _ _⟩
        · obtain ⟨p', h4⟩ := h.done p j' (by omega) h2 h3
          have : p' ≠ p0 := fun e => by rw [e, hnone] at h4; cases h4
          exact ⟨p', by rw [updF_ne _ _ this]; exact h4⟩
      · by_cases e : p = p0
        · have e' : p' ≠ p0 := by omega
          rw [e, updF_at] at h1
          cases h1
          rw [updF_ne _ _ e'] at h2
          obtain ⟨h3, t, h4, h5, h6, h7⟩ := h.at_ h2
          by_cases hc : c i' = s
          · rw [hc] at h4 h5 h6 h7
            cases hii : ins i' with
            | true => have := h6 hii; omega
            | false => exact hr.kind j i' hjn h3 (by rw [hc, hse]) hj hii
          · refine hr.code j i' hjn h3 (by rw [← hse]; exact fun e => hc e.symm) ?_
            rw [← hse]
            rcases hs.apart s (c i') (fun e => hc e.symm) with h8 | h8 <;> omega
        · rw [updF_ne _ _ e] at h1
          by_cases e' : p' = p0
          · rw [e', updF_at] at h2
            cases h2
            obtain ⟨h3, t, h4, h5, h6, h7⟩ := h.at_ h1
            by_cases hc : c i = s
            · have hii : ins i = true := by
                cases hii : ins i with
                | true => rfl
                | false =>
                  have := h7 hii
                  rw [hc] at this h5
                  omega
              obtain ⟨p1, h8, -, h9⟩ := h.prev p i h1 hii
              exact hr.step i j h3 hjn (by rw [hc, hse]) hii hj (h.sort p1 k (i + 1) (j + 1) h8 h9 hk)
            · refine hr.code i j h3 hjn (by rw [← hse]; exact hc) ?_
              rw [← hse]
              rcases hs.apart (c i) s hc with h8 | h8 <;> omega
          · rw [updF_ne _ _ e'] at h2
            exact h.sort p p' i i' hpp h1 h2
    · have e0 : scStep c ins st (a, q) k = (a, q) := by simp only [scStep, hk, if_neg hi]
      rw [e0]
      show ScanI n c ins st m R a q (k + 1)
      refine ⟨h.fit, h.low, h.mid, h.top, h.out, h.inj, fun p j h1 h2 => ?_, fun p j h1 h2 h3 => ?_, h.sort⟩
      · obtain ⟨p', h3, h4⟩ := h.prev p j h1 h2
        exact ⟨p', by omega, h4⟩
      · by_cases e : p = k
        · subst e
          rw [hk] at h2
          cases h2
          exact absurd ⟨by omega, by rw [Nat.add_sub_cancel]; exact h3⟩ hi
        · exact h.done p j (by omega) h2 h3
theorem ScanI.scan {a0 : Nat → Option Nat} (hs : Scan n c ins st) (hr : ScanR n c ins st R) (h : ScanI n c ins st m R a0 (fun _ => 0) 0) :
    ∀ k, ScanI n c ins st m R (scan c ins st a0 k).1 (scan c ins st a0 k).2 k
  | 0 => h
  | k + 1 => (ScanI.scan hs hr h k).step hs hr
/-- At the end all are put of which the first one stands there. -/
theorem ScanI.all (hs : Scan n c ins st) (h : ScanI n c ins st m R a q n) (hseed : ∀ j, j < n → ins j = true → ins (j + 1) = true ∨ ∃ p, a p = some (j + 1)) :
    ∀ d j, n = j + d → j < n → ins j = true → ∃ p, a p = some j
  | 0, j, h1, h2, _ => by omega
  | d + 1, j, h1, h2, h3 => by
    have h4 := (hs.next j h2 h3).1
    have h5 : ∃ p, a p = some (j + 1) := by
      rcases hseed j h2 h3 with h5 | h5
      · exact ScanI.all hs h hseed d (j + 1) (by omega) h4 h5
      · exact h5
    obtain ⟨p, hp⟩ := h5
    exact h.done p j (h.lt hs hp) hp h3
end
end Go.Inc
namespace Go.Inc
/-- Codes and kinds of a text. -/
structure Txt (n : Nat) (c : Nat → Nat) (K : Nat → Bool) : Prop where
  pos : 0 < n
  last : K (n - 1) = true
  zero : ∀ i, i < n → (c i = 0 ↔ i + 1 = n)
  kind : ∀ i, i + 1 < n → (K i = true ↔ c i < c (i + 1) ∨ (c i = c (i + 1) ∧ K (i + 1) = true))
/-- A bucket's head. -/
def hdC (n : Nat) (c : Nat → Nat) (s : Nat) : Nat := ((List.range n).filter fun i => decide (c i < s)).length
theorem hdC_succ (n : Nat) (c : Nat → Nat) (s : Nat) : hdC n c (s + 1) = hdC n c s + szC n c s := by
  unfold hdC szC
  induction n with
  | zero => rfl
  | succ n ih =>
    rw [List.range_succ, List.filter_append, List.filter_append, List.filter_append, List.length_append, List.length_append, List.length_append, ih]
    have : (([n].filter fun i => decide (c i < s + 1)) : List Nat).length = (([n].filter fun i => decide (c i < s)) : List Nat).length + (([n].filter fun i => c i == s) : List Nat).length := by
      by_cases h1 : c n < s
      · have h2 : c n < s + 1 := by omega
        have h3 : ¬ c n = s := by omega
        simp [h1, h2, h3]
      · by_cases h3 : c n = s
        · subst h3; simp
        · have h2 : ¬ c n < s + 1 := by omega
          simp [h1, h2, h3]
    omega
theorem hdC_mono (n : Nat) (c : Nat → Nat) {s s' : Nat} (h : s ≤ s') : hdC n c s ≤ hdC n c s' := by
  induction s' with
  | zero => obtain rfl : s = 0 := by omega
            exact Nat.le_refl _
  | succ s' ih =>
    by_cases e : s = s' + 1
    · subst e; exact Nat.le_refl _
    · have := ih (by omega)
      rw [hdC_succ]; omega
theorem hdC_le (n : Nat) (c : Nat → Nat) (s : Nat) : hdC n c s ≤ n := by
  unfold hdC
  have := List.length_filter_le (fun i => decide (c i < s)) (List.range n)
  rwa [List.length_range] at this
theorem szC_pos {n : Nat} {c : Nat → Nat} {i : Nat} (h : i < n) : 0 < szC n c (c i) := by
  unfold szC
  exact List.length_pos_of_mem (List.mem_filter.2 ⟨List.mem_range.2 h, by simp⟩)
section
variable {n : Nat} {c : Nat → Nat} {K : Nat → Bool}
theorem Txt.L (h : Txt n c K) {j : Nat} (hj : j < n) (hk : K j = false) : j + 1 < n ∧ c (j + 1) ≤ c j ∧ (c (j + 1) = c j → K (j + 1) = false) := by
  have hn : j + 1 < n := by
    refine Classical.byContradiction fun h1 => ?_
    obtain rfl : j = n - 1 := by omega
    rw [h.last] at hk; cases hk
  have h1 := h.kind j hn
  rw [hk] at h1
  have h2 : ¬ (c j < c (j + 1) ∨ c j = c (j + 1) ∧ K (j + 1) = true) := fun h3 => by have := h1.2 h3; cases this
  refine ⟨hn, by omega, fun e => ?_⟩
  cases hh : K (j + 1) with
  | false => rfl
  | true => exact absurd (.inr ⟨e.symm, hh⟩) h2
theorem Txt.S (h : Txt n c K) {j : Nat} (hj : j + 1 < n) (hk : K j = true) : c j ≤ c (j + 1) ∧ (c (j + 1) = c j → K (j + 1) = true ∧ j + 1 ≠ n - 1) := by
  have h1 := (h.kind j hj).1 hk
  refine ⟨by omega, fun e => ⟨?_, fun e2 => ?_⟩⟩
  · rcases h1 with h1 | h1
    · omega
    · exact h1.2
  · have h2 := (h.zero (j + 1) hj).2 (by omega)
    rw [e] at h2
    have := (h.zero j (by omega)).1 h2
    omega
/-- Is it a first S? -/
def msK (n : Nat) (K : Nat → Bool) (j : Nat) : Prop := 0 < j ∧ j < n ∧ K j = true ∧ K (j - 1) = false
/-- Which places the first scan puts, and the second one. -/
def insL (K : Nat → Bool) (i : Nat) : Bool := !K i
def insS (n : Nat) (K : Nat → Bool) (i : Nat) : Bool := K i && decide (i ≠ n - 1)
def stS (n : Nat) (c : Nat → Nat) (s : Nat) : Nat := n - hdC n c (s + 1)
theorem insL_iff {i : Nat} : insL K i = true ↔ K i = false := by unfold insL; cases K i <;> simp
theorem insL_not {i : Nat} : insL K i = false ↔ K i = true := by unfold insL; cases K i <;> simp
theorem insS_iff {i : Nat} : insS n K i = true ↔ K i = true ∧ i ≠ n - 1 := by unfold insS; simp
theorem Txt.scanL (h : Txt n c K) : Scan n c (insL K) (hdC n c) where
  in_ s := by rw [← hdC_succ]; exact hdC_le _ _ _
  apart s s' _ := by
    rw [← hdC_succ, ← hdC_succ]
    by_cases e : s < s'
    · exact .inl (hdC_mono n c (by omega))
    · exact .inr (hdC_mono n c (by omega))
  next j hj hi := by
    obtain ⟨h1, h2, h3⟩ := h.L hj (insL_iff.1 hi)
    refine ⟨h1, fun e => ?_, fun e => insL_iff.2 (h3 e)⟩
    rw [← hdC_succ]
    exact hdC_mono n c (by omega)
theorem Txt.scanS (h : Txt n c K) : Scan n c (insS n K) (stS n c) where
  in_ s := by
    have h1 := hdC_le n c (s + 1)
    have h2 := hdC_succ n c s
    unfold stS; omega
  apart s s' _ := by
    have h1 := hdC_le n c (s + 1)
    have h2 := hdC_succ n c s
    have h1' := hdC_le n c (s' + 1)
    have h2' := hdC_succ n c s'
    unfold stS
    by_cases e : s < s'
    · have := hdC_mono n c (show s + 1 ≤ s' by omega)
      right; omega
    · have := hdC_mono n c (show s' + 1 ≤ s by omega)
      left; omega
  next j hj hi := by
    obtain ⟨h1, h2⟩ := insS_iff.1 hi
    have hn : j + 1 < n := by omega
    obtain ⟨h3, h4⟩ := h.S hn h1
    refine ⟨hn, fun e => ?_, fun e => insS_iff.2 (h4 e)⟩
    have h5 := hdC_le n c (c (j + 1) + 1)
    have h6 := hdC_succ n c (c (j + 1))
    have h7 := hdC_mono n c (show c j + 1 ≤ c (j + 1) by omega)
    unfold stS; omega
/-- An order of places that goes by codes, by kinds, and by what is behind; that of the first scan, and that of the second one. -/
structure ByR (n : Nat) (c : Nat → Nat) (K : Nat → Bool) (R R' : Nat → Nat → Prop) : Prop where
  code : ∀ i j, i < n → j < n → c i < c j → R i j
  code' : ∀ i j, i < n → j < n → c i < c j → R' i j
  kind : ∀ i j, i < n → j < n → c i = c j → K i = false → K j = true → R i j
  kind' : ∀ i j, i < n → j < n → c i = c j → K i = false → K j = true → R' i j
  step : ∀ i j, i + 1 < n → j + 1 < n → c i = c j → K i = false → K j = false → R (i + 1) (j + 1) → R i j
  step' : ∀ i j, i + 1 < n → j + 1 < n → c i = c j → K i = true → K j = true → R' (i + 1) (j + 1) → R' i j
  both : ∀ i j, i < n → j < n → c i = c j → K i = false → K j = false → R i j → R' i j
variable {R R' : Nat → Nat → Prop}
theorem hd_lt {i j : Nat} (hi : i < n) (_ : c i ≠ c j) (h : hdC n c (c i) + szC n c (c i) ≤ hdC n c (c j)) : c i < c j := by
  refine Classical.byContradiction fun h1 => ?_
  have h2 := hdC_mono n c (show c j ≤ c i by omega)
  have := szC_pos (c := c) hi
  omega
theorem ByR.scanL (hT : Txt n c K) (h : ByR n c K R R') : ScanR n c (insL K) (hdC n c) R where
  code i j hi hj hne hb := h.code i j hi hj (hd_lt hi hne hb)
  kind i j hi hj hc h1 h2 := h.kind i j hi hj hc (insL_iff.1 h1) (insL_not.1 h2)
  step i j hi hj hc h1 h2 hr := h.step i j (hT.L hi (insL_iff.1 h1)).1 (hT.L hj (insL_iff.1 h2)).1 hc (insL_iff.1 h1) (insL_iff.1 h2) hr
theorem ByR.scanS (hT : Txt n c K) (h : ByR n c K R R') : ScanR n c (insS n K) (stS n c) fun i j => R' j i where
  code i j hi hj _ hb := by
    refine h.code' j i hj hi ?_
    refine Classical.byContradiction fun h1 => ?_
    have h2 := hdC_mono n c (show c i + 1 ≤ c j by omega)
    have h3 := szC_pos (c := c) hi
    have h4 := hdC_le n c (c j + 1)
    have h5 := hdC_succ n c (c j)
    have h6 := szC_pos (c := c) hj
    have h7 := hdC_succ n c (c i)
    unfold stS at hb
    omega
  kind i j hi hj hc h1 h2 := by
    obtain ⟨h3, h4⟩ := insS_iff.1 h1
    refine h.kind' j i hj hi hc.symm ?_ h3
    cases hk : K j with
    | false => rfl
    | true =>
      have h5 : j = n - 1 := Classical.byContradiction fun h6 => by
        rw [insS_iff.2 ⟨hk, h6⟩] at h2; cases h2
      have h6 := (hT.zero j hj).2 (by omega)
      rw [← hc] at h6
      have := (hT.zero i hi).1 h6
      omega
  step i j hi hj hc h1 h2 hr := by
    obtain ⟨h3, h4⟩ := insS_iff.1 h1
    obtain ⟨h5, h6⟩ := insS_iff.1 h2
    exact h.step' j i (by omega) (by omega) hc.symm h5 h3 hr
/-- First Ss that are sown, from the last one on. -/
def sow (n : Nat) (c : Nat → Nat) : List Nat → ScSt
  | [] => (fun _ => none, fun _ => 0)
  | f :: fs => (updF (sow n c fs).1 (hdC n c (c f + 1) - 1 - (sow n c fs).2 (c f)) (some f), updF (sow n c fs).2 (c f) ((sow n c fs).2 (c f) + 1))
theorem sow_ok (hT : Txt n c K) : ∀ (fs : List Nat), fs.Nodup → (∀ f ∈ fs, f < n ∧ K f = true) → (∀ f ∈ fs, ∀ g ∈ fs, c f < c g → R f g) → (fs.Pairwise fun f g => c f = c g → R f g) →
    ScanI n c (insL K) (hdC n c) (sow n c fs).2 R (sow n c fs).1 (fun _ => 0) 0 ∧ (∀ p i, (sow n c fs).1 p = some i ↔ i ∈ fs ∧ (sow n c fs).1 p = some i) ∧ (∀ f ∈ fs, ∃ p, (sow n c fs).1 p = some f) ∧ ∀ s, (sow n c fs).2 s = (fs.filter fun f => c f == s).length
  | [], _, _, _, _ => by
    refine ⟨⟨fun s => Nat.zero_le _, fun s t h => absurd h (by omega), fun s t _ _ => rfl, fun s t h1 h2 => ?_, fun p i h => ?_, fun p p' i h => ?_, fun p j h => ?_, fun p j h => absurd h (by omega), fun p p' i i' _ h => ?_⟩, fun p i => ⟨fun h => ?_, fun h => h.2⟩, fun f hf => ?_, fun s => rfl⟩
    · have h3 : szC n c s - 0 ≤ t := h1
      omega
    all_goals first | cases h | cases hf
  | f :: fs, hn, hf, hr, hp => by
    rw [List.nodup_cons] at hn
    rw [List.pairwise_cons] at hp
    obtain ⟨h, hm, hall, hq⟩ := sow_ok hT fs hn.2 (fun g hg => hf g (List.mem_cons_of_mem _ hg)) (fun g hg g' hg' => hr g (List.mem_cons_of_mem _ hg) g' (List.mem_cons_of_mem _ hg')) hp.2
    obtain ⟨hfn, hfk⟩ := hf f (by simp)
    have hno : ∀ p, (sow n c fs).1 p ≠ some f := fun p hp => hn.1 ((hm p f).1 hp).1
    have hroom := h.room hfn hno
    have hno' : insL K f = false := insL_not.2 hfk
    obtain ⟨a, ha⟩ : ∃ a, a = (sow n c fs).1 := ⟨_, rfl⟩
    obtain ⟨m, hmm⟩ : ∃ m, m = (sow n c fs).2 := ⟨_, rfl⟩
    rw [← ha] at h hm hall hno
    rw [← hmm] at h hq hroom
    obtain ⟨s, hse⟩ : ∃ s, s = c f := ⟨_, rfl⟩
    rw [← hse] at hroom
    have hroom' : m s < szC n c s := by simpa using hroom
    obtain ⟨p0, hp0⟩ : ∃ p0, p0 = hdC n c (s + 1) - 1 - m s := ⟨_, rfl⟩
    have hp0' : p0 = hdC n c s + (szC n c s - m s - 1) := by rw [hp0, hdC_succ]; omega
    have hS := hT.scanL
    have hnone : a p0 = none := by rw [hp0']; exact h.mid s _ (Nat.zero_le _) (by omega)
    have hfar : ∀ s' t, s' ≠ s → t < szC n c s' → hdC n c s' + t ≠ p0 := fun s' t hne ht e => by
      rcases hS.apart s' s hne with h1 | h1 <;> omega
    show ScanI n c (insL K) (hdC n c) (updF (sow n c fs).2 (c f) ((sow n c fs).2 (c f) + 1)) R (updF (sow n c fs).1 (hdC n c (c f + 1) - 1 - (sow n c fs).2 (c f)) (some f)) (fun _ => 0) 0 ∧ (∀ p i, updF (sow n c fs).1 (hdC n c (c f + 1) - 1 - (sow n c fs).2 (c f)) (some f) p = some i ↔ i ∈ f :: fs ∧ updF (sow n c fs).1 (hdC n c (c f + 1) - 1 - (sow n c fs).2 (c f)) (some f) p = some i) ∧ (∀ g ∈ f :: fs, ∃ p, updF (sow n c fs).1 (hdC n c (c f + 1) - 1 - (sow n c fs).2 (c f)) (some f) p = some g) ∧ ∀ s, updF (sow n c fs).2 (c f) ((sow n c fs).2 (c f) + 1) s = ((f :: fs).filter fun f => c f == s).length
    rw [← ha, ← hmm, ← hse, ← hp0]
    refine ⟨⟨fun s' => ?_, fun s' t ht => absurd ht (by omega), fun s' t h1 h2 => ?_, fun s' t h1 h2 => ?_, fun p i h1 => ?_, fun p p' i h1 h2 => ?_, fun p j h1 h2 => ?_, fun p j h1 => absurd h1 (by omega), fun p p' i i' hpp h1 h2 => ?_⟩, fun p i => ⟨fun h1 => ⟨?_, h1⟩, fun h1 => h1.2⟩, fun g hg => ?_, fun s' => ?_⟩
    · by_cases e : s' = s
      · subst e; rw [updF_at]; omega
      · rw [updF_ne _ _ e]; exact h.fit s'
    · by_cases e : s' = s
      · subst e
        rw [updF_at] at h2
        rw [updF_ne _ _ (by omega)]
        exact h.mid s' t h1 (by omega)
      · rw [updF_ne _ _ e] at h2
        rw [updF_ne _ _ (hfar s' t e (by omega))]
        exact h.mid s' t h1 h2
    · by_cases e : s' = s
      · subst e
        rw [updF_at] at h1
        by_cases e2 : t = szC n c s' - m s' - 1
        · subst e2
          exact ⟨f, by rw [← hp0', updF_at], hfn, hse.symm, hno'⟩
        · rw [updF_ne _ _ (by omega)]
          exact h.top s' t (by omega) h2
      · rw [updF_ne _ _ e] at h1
        rw [updF_ne _ _ (hfar s' t e h2)]
        exact h.top s' t h1 h2
    · by_cases e : p = p0
      · exact ⟨s, szC n c s - m s - 1, by omega, by rw [e, hp0']⟩
      · rw [updF_ne _ _ e] at h1
        exact h.out p i h1
    · by_cases e : p = p0
      · by_cases e' : p' = p0
        · rw [e, e']
        · rw [e, updF_at] at h1
          rw [updF_ne _ _ e'] at h2
          cases h1
          exact absurd h2 (hno p')
      · rw [updF_ne _ _ e] at h1
        by_cases e' : p' = p0
        · rw [e', updF_at] at h2
          cases h2
          exact absurd h1 (hno p)
        · rw [updF_ne _ _ e'] at h2
          exact h.inj p p' i h1 h2
    · by_cases e : p = p0
      · rw [e, updF_at] at h1
        cases h1
        rw [hno'] at h2; cases h2
      · rw [updF_ne _ _ e] at h1
        obtain ⟨p', h3, h4⟩ := h.prev p j h1 h2
        omega
    · by_cases e : p = p0
      · have e' : p' ≠ p0 := by omega
        rw [e, updF_at] at h1
        cases h1
        rw [updF_ne _ _ e'] at h2
        have hin := ((hm p' i').1 h2).1
        obtain ⟨h3, t, h4, h5, h6, h7⟩ := h.at_ h2
        by_cases hc : c i' = s
        · exact hp.1 i' hin (by rw [hc, hse])
        · refine hr f (by simp) i' (List.mem_cons_of_mem _ hin) ?_
          refine Classical.byContradiction fun h8 => ?_
          have h9 := hdC_mono n c (show c i' + 1 ≤ s by omega)
          rw [hdC_succ] at h9
          omega
      · rw [updF_ne _ _ e] at h1
        by_cases e' : p' = p0
        · rw [e', updF_at] at h2
          cases h2
          have hin := ((hm p i).1 h1).1
          obtain ⟨h3, t, h4, h5, h6, h7⟩ := h.at_ h1
          by_cases hc : c i = s
          · have h8 := h7 (insL_not.2 (hf i (List.mem_cons_of_mem _ hin)).2)
            rw [hc] at h8 h5
            omega
          · refine hr i (List.mem_cons_of_mem _ hin) f (by simp) ?_
            refine Classical.byContradiction fun h8 => ?_
            have h9 := hdC_mono n c (show s + 1 ≤ c i by omega)
            rw [hdC_succ] at h9
            omega
        · rw [updF_ne _ _ e'] at h2
          exact h.sort p p' i i' hpp h1 h2
    · by_cases e : p = p0
      · rw [e, updF_at] at h1
        cases h1
        simp
      · rw [updF_ne _ _ e] at h1
        exact List.mem_cons_of_mem _ ((hm p i).1 h1).1
    · rcases List.mem_cons.1 hg with rfl | hg
      · exact ⟨p0, updF_at _ _ _⟩
      · obtain ⟨p, h1⟩ := hall g hg
        have : p ≠ p0 := fun e => by rw [e, hnone] at h1; cases h1
        exact ⟨p, by rw [updF_ne _ _ this]; exact h1⟩
    · by_cases e : s' = s
      · subst e
        rw [updF_at, hq, List.filter_cons_of_pos (by simp [hse])]
        rfl
      · rw [updF_ne _ _ e, hq, List.filter_cons_of_neg (by rw [← hse]; simp; exact fun e2 => e e2.symm)]
end
end Go.Inc
namespace Go.Inc
section
variable {n : Nat} {c : Nat → Nat} {ins : Nat → Bool} {st m : Nat → Nat} {R : Nat → Nat → Prop} {a : Nat → Option Nat} {q : Nat → Nat} {k : Nat}
/-- What stands, stays. -/
theorem ScanI.step_keep (h : ScanI n c ins st m R a q k) {p i : Nat} (hp : a p = some i) : (scStep c ins st (a, q) k).1 p = some i := by
  cases hk : a k with
  | none =>
    have e0 : scStep c ins st (a, q) k = (a, q) := by simp only [scStep, hk]
    rw [e0]; exact hp
  | some i0 =>
    by_cases hi : 0 < i0 ∧ ins (i0 - 1) = true
    · have e0 : scStep c ins st (a, q) k = (updF a (st (c (i0 - 1)) + q (c (i0 - 1))) (some (i0 - 1)), updF q (c (i0 - 1)) (q (c (i0 - 1)) + 1)) := by simp only [scStep, hk, if_pos hi]
      rw [e0]
      obtain ⟨hin, t0, ht0, hkt, -, -⟩ := h.at_ hk
      have hno : ∀ p, a p ≠ some (i0 - 1) := fun p hp => by
        obtain ⟨p', h1, h2, h3⟩ := h.prev p _ hp hi.2
        rw [Nat.sub_add_cancel hi.1] at h3
        have := h.inj p' k _ h3 hk
        omega
      have hroom := h.room (show i0 - 1 < n by omega) hno
      have hnone := h.mid (c (i0 - 1)) (q (c (i0 - 1))) (Nat.le_refl _) (by omega)
      show updF a _ _ p = some i
      rw [updF_ne _ _ (fun e => by rw [e, hnone] at hp; cases hp)]
      exact hp
    · have e0 : scStep c ins st (a, q) k = (a, q) := by simp only [scStep, hk, if_neg hi]
      rw [e0]; exact hp
theorem ScanI.scan_keep {a0 : Nat → Option Nat} (hs : Scan n c ins st) (hr : ScanR n c ins st R) (h : ScanI n c ins st m R a0 (fun _ => 0) 0) {p i : Nat} (hp : a0 p = some i) : ∀ k, (Inc.scan c ins st a0 k).1 p = some i
  | 0 => hp
  | k + 1 => (ScanI.scan hs hr h k).step_keep (ScanI.scan_keep hs hr h hp k)
end
section
variable {n : Nat} {c : Nat → Nat} {K : Nat → Bool}
/-- The first scan. -/
def pass1 (n : Nat) (c : Nat → Nat) (K : Nat → Bool) (fs : List Nat) : ScSt := scan c (insL K) (hdC n c) (sow n c fs).1 n
/-- What is left of it: the Ls, and the last place; told from the end on. -/
def left1 (n : Nat) (c : Nat → Nat) (K : Nat → Bool) (fs : List Nat) (p : Nat) : Option Nat :=
  if p < n then match (pass1 n c K fs).1 (n - 1 - p) with | some i => if insS n K i = true then none else some i | none => none else none
/-- The second scan, from the end on. -/
def pass2 (n : Nat) (c : Nat → Nat) (K : Nat → Bool) (fs : List Nat) : ScSt := scan c (insS n K) (stS n c) (left1 n c K fs) n
/-- The order that is induced. -/
def indF (n : Nat) (c : Nat → Nat) (K : Nat → Bool) (fs : List Nat) : List Nat := (List.range n).map fun p => ((pass2 n c K fs).1 (n - 1 - p)).getD 0
variable {R R' : Nat → Nat → Prop}
/-- First Ss that may be sown. -/
structure SowOk (n : Nat) (c : Nat → Nat) (K : Nat → Bool) (R : Nat → Nat → Prop) (fs : List Nat) : Prop where
  nodup : fs.Nodup
  all : ∀ j, j ∈ fs ↔ msK n K j
  sort : fs.Pairwise fun f g => c f = c g → R f g
theorem pass1_ok (hT : Txt n c K) (hR : ByR n c K R R') {fs : List Nat} (hf : SowOk n c K R fs) :
    ScanI n c (insL K) (hdC n c) (sow n c fs).2 R (pass1 n c K fs).1 (pass1 n c K fs).2 n ∧ (∀ j, j < n → K j = false → ∃ p, (pass1 n c K fs).1 p = some j) ∧ (∀ f ∈ fs, ∃ p, (pass1 n c K fs).1 p = some f) := by
  obtain ⟨h0, -, hall, -⟩ := sow_ok hT fs hf.nodup (fun f h => by have := (hf.all f).1 h; exact ⟨this.2.1, this.2.2.1⟩) (fun f h g k hc => hR.code f g ((hf.all f).1 h).2.1 ((hf.all g).1 k).2.1 hc) hf.sort
  have h1 := ScanI.scan hT.scanL (hR.scanL hT) h0 n
  have hseed : ∀ f ∈ fs, ∃ p, (pass1 n c K fs).1 p = some f := fun f h => by
    obtain ⟨p, hp⟩ := hall f h
    exact ⟨p, ScanI.scan_keep hT.scanL (hR.scanL hT) h0 hp n⟩
  refine ⟨h1, fun j hj hk => ?_, hseed⟩
  refine ScanI.all hT.scanL h1 (fun j hj hi => ?_) (n - j) j (by omega) hj (insL_iff.2 hk)
  obtain ⟨h2, -, -⟩ := hT.L hj (insL_iff.1 hi)
  cases hk1 : K (j + 1) with
  | false => exact .inl (insL_iff.2 hk1)
  | true =>
    right
    exact hseed (j + 1) ((hf.all (j + 1)).2 ⟨by omega, h2, hk1, by rw [Nat.add_sub_cancel]; exact insL_iff.1 hi⟩)
theorem sz_zero (hT : Txt n c K) : szC n c 0 = 1 := by
  unfold szC
  have h1 : ((List.range n).filter fun i => c i == 0) = [n - 1] := by
    have e : List.range n = List.range (n - 1) ++ [n - 1] := by
      have h0 := List.range_succ (n := n - 1)
      rwa [show (n - 1).succ = n from Nat.sub_add_cancel hT.pos] at h0
    rw [e, List.filter_append]
    have h2 : (List.range (n - 1)).filter (fun i => c i == 0) = [] := by
      rw [List.filter_eq_nil_iff]
      intro i hi h
      have hi' := List.mem_range.1 hi
      have := (hT.zero i (by omega)).1 (by simpa using h)
      omega
    have h3 := (hT.zero (n - 1) (by have := hT.pos; omega)).2 (by have := hT.pos; omega)
    rw [h2, List.nil_append, List.filter_cons_of_pos (by simp [h3])]
    rfl
  rw [h1]; rfl
theorem hd_zero (n : Nat) (c : Nat → Nat) : hdC n c 0 = 0 := by
  unfold hdC
  rw [List.length_eq_zero_iff, List.filter_eq_nil_iff]
  intro i _ h
  simp at h
/-- How many there are to start the second scan with. -/
def seed2 (n : Nat) (c : Nat → Nat) (K : Nat → Bool) (fs : List Nat) (s : Nat) : Nat := if s = 0 then 1 else (pass1 n c K fs).2 s
theorem left1_ok (hT : Txt n c K) (hR : ByR n c K R R') {fs : List Nat} (hf : SowOk n c K R fs) (h1n : 1 < n) :
    ScanI n c (insS n K) (stS n c) (seed2 n c K fs) (fun i j => R' j i) (left1 n c K fs) (fun _ => 0) 0 := by
  obtain ⟨h, hL, hS⟩ := pass1_ok hT hR hf
  have hlast : n - 1 ∈ fs := by
    rw [hf.all]
    refine ⟨by omega, by omega, hT.last, ?_⟩
    cases hk : K (n - 1 - 1) with
    | false => rfl
    | true =>
      have h1 := (hT.S (show n - 1 - 1 + 1 < n by omega) hk).1
      have h2 := (hT.zero (n - 1) (by omega)).2 (by omega)
      have h3 : n - 1 - 1 + 1 = n - 1 := by omega
      rw [h3, h2] at h1
      have := (hT.zero (n - 1 - 1) (by omega)).1 (by omega)
      omega
  obtain ⟨a, ha⟩ : ∃ a, a = (pass1 n c K fs).1 := ⟨_, rfl⟩
  obtain ⟨q, hq⟩ : ∃ q, q = (pass1 n c K fs).2 := ⟨_, rfl⟩
  rw [← ha] at h hL hS
  rw [← hq] at h
  have hsz0 := sz_zero hT
  have hq0 : q 0 = 0 := by
    refine Classical.byContradiction fun h0 => ?_
    obtain ⟨i, h1, h2, h3, h4⟩ := h.low 0 0 (by omega)
    have h5 := (hT.zero i h2).1 h3
    have h6 := insL_iff.1 h4
    rw [show i = n - 1 by omega, hT.last] at h6
    cases h6
  have hp0 : a 0 = some (n - 1) := by
    obtain ⟨p, hp⟩ := hS _ hlast
    obtain ⟨h1, t, h2, h3, -, -⟩ := h.at_ hp
    have h4 := (hT.zero (n - 1) (by omega)).2 (by omega)
    rw [h4, hsz0] at h2
    rw [h4, hd_zero] at h3
    have : p = 0 := by omega
    rw [← this]; exact hp
  have hlf : ∀ p, left1 n c K fs p = if p < n then match a (n - 1 - p) with | some i => if insS n K i = true then none else some i | none => none else none := fun p => by unfold left1; rw [← ha]
  have hm2 : ∀ s, seed2 n c K fs s = if s = 0 then 1 else q s := fun s => by unfold seed2; rw [← hq]
  have hl_some : ∀ p i, left1 n c K fs p = some i → p < n ∧ a (n - 1 - p) = some i ∧ insS n K i = false := fun p i hp => by
    rw [hlf] at hp
    by_cases h1 : p < n
    · rw [if_pos h1] at hp
      cases h2 : a (n - 1 - p) with
      | none => rw [h2] at hp; cases hp
      | some j =>
        rw [h2] at hp
        simp only at hp
        by_cases h3 : insS n K j = true
        · rw [if_pos h3] at hp; cases hp
        · rw [if_neg h3] at hp
          cases hp
          exact ⟨h1, rfl, by simpa using h3⟩
    · rw [if_neg h1] at hp; cases hp
  have hl_is : ∀ p i, p < n → a (n - 1 - p) = some i → insS n K i = false → left1 n c K fs p = some i := fun p i h1 h2 h3 => by
    rw [hlf, if_pos h1, h2]
    simp only
    rw [if_neg (by rw [h3]; simp)]
  have hnot : ∀ i, insS n K i = false → K i = true → i = n - 1 := fun i h1 h2 => by
    refine Classical.byContradiction fun h3 => ?_
    rw [insS_iff.2 ⟨h2, h3⟩] at h1; cases h1
  refine ⟨fun s => ?_, fun s t h1 => absurd h1 (by omega), fun s t _ h2 => ?_, fun s t h1 h2 => ?_, fun p i h1 => ?_, fun p p' i h1 h2 => ?_, fun p j h1 h2 => ?_, fun p j h1 => absurd h1 (by omega), fun p p' i i' hpp h1 h2 => ?_⟩
  · rw [hm2]
    by_cases e : s = 0
    · subst e; rw [if_pos rfl, hsz0]; exact Nat.le_refl _
    · rw [if_neg e]
      have := h.fit s
      omega
  · rw [hm2] at h2
    by_cases e : s = 0
    · subst e; rw [if_pos rfl, hsz0] at h2; omega
    · rw [if_neg e] at h2
      have h3 := hdC_le n c (s + 1)
      have h4 := hdC_succ n c s
      cases hv : left1 n c K fs (stS n c s + t) with
      | none => rfl
      | some i =>
        obtain ⟨h5, h6, h7⟩ := hl_some _ _ hv
        have e2 : n - 1 - (stS n c s + t) = hdC n c s + (szC n c s - 1 - t) := by unfold stS; omega
        rw [e2] at h6
        obtain ⟨h8, t', h9, h10, h11, h12⟩ := h.at_ h6
        have hc : c i = s := by
          refine Classical.byContradiction fun h13 => ?_
          rcases hT.scanL.apart (c i) s h13 with h14 | h14 <;> omega
        rw [hc] at h9 h10 h11 h12
        cases hk : K i with
        | false => have := h11 (insL_iff.2 hk); omega
        | true =>
          have h13 := hnot i h7 hk
          have h14 := (hT.zero i h8).2 (by omega)
          omega
  · rw [hm2] at h1
    have h3 := hdC_le n c (s + 1)
    have h4 := hdC_succ n c s
    have e2 : n - 1 - (stS n c s + t) = hdC n c s + (szC n c s - 1 - t) := by unfold stS; omega
    by_cases e : s = 0
    · subst e
      rw [hsz0] at h2
      have h5 : n - 1 - (stS n c 0 + t) = 0 := by rw [e2, hsz0, hd_zero]; omega
      refine ⟨n - 1, hl_is _ _ (by unfold stS; omega) (by rw [h5]; exact hp0) ?_, by omega, (hT.zero (n - 1) (by omega)).2 (by omega), ?_⟩
      all_goals
        unfold insS; simp
    · rw [if_neg e] at h1
      have := h.fit s
      obtain ⟨i, h5, h6, h7, h8⟩ := h.low s (szC n c s - 1 - t) (by omega)
      have h9 : insS n K i = false := by unfold insS; rw [insL_iff.1 h8]; rfl
      exact ⟨i, hl_is _ _ (by unfold stS; omega) (by rw [e2]; exact h5) h9, h6, h7, h9⟩
  · obtain ⟨h2, h3, h4⟩ := hl_some p i h1
    obtain ⟨h5, t, h6, h7, -, -⟩ := h.at_ h3
    have h8 := hdC_le n c (c i + 1)
    have h9 := hdC_succ n c (c i)
    exact ⟨c i, szC n c (c i) - 1 - t, by omega, by unfold stS; omega⟩
  · obtain ⟨h3, h4, -⟩ := hl_some p i h1
    obtain ⟨h5, h6, -⟩ := hl_some p' i h2
    have := h.inj _ _ i h4 h6
    omega
  · obtain ⟨-, -, h3⟩ := hl_some p j h1
    rw [h2] at h3; cases h3
  · obtain ⟨h3, h4, h5⟩ := hl_some p i h1
    obtain ⟨h6, h7, h8⟩ := hl_some p' i' h2
    have h9 := h.sort (n - 1 - p') (n - 1 - p) i' i (by omega) h7 h4
    obtain ⟨h10, t, h11, h12, -, -⟩ := h.at_ h4
    obtain ⟨h13, t', h14, h15, -, -⟩ := h.at_ h7
    show R' i' i
    by_cases hc : c i' = c i
    · cases hk : K i with
      | true =>
        have h16 := hnot i h5 hk
        have h17 := (hT.zero i h10).2 (by omega)
        rw [h17] at hc
        have h18 := (hT.zero i' h13).1 hc
        have h20 : i' = i := by omega
        rw [h20] at h7
        have h19 := h.inj (n - 1 - p') (n - 1 - p) i h7 h4
        omega
      | false =>
        cases hk' : K i' with
        | true =>
          have h16 := hnot i' h8 hk'
          have h17 := (hT.zero i' h13).2 (by omega)
          rw [h17] at hc
          have h18 := (hT.zero i h10).1 hc.symm
          rw [show i = n - 1 by omega, hT.last] at hk
          cases hk
        | false => exact hR.both i' i h13 h10 hc hk' hk h9
    · refine hR.code' i' i h13 h10 ?_
      refine Classical.byContradiction fun h16 => ?_
      have h17 := hdC_mono n c (show c i + 1 ≤ c i' by omega)
      rw [hdC_succ] at h17
      omega
theorem pass2_ok (hT : Txt n c K) (hR : ByR n c K R R') {fs : List Nat} (hf : SowOk n c K R fs) (h1n : 1 < n) :
    ScanI n c (insS n K) (stS n c) (seed2 n c K fs) (fun i j => R' j i) (pass2 n c K fs).1 (pass2 n c K fs).2 n ∧ ∀ j, j < n → ∃ p, (pass2 n c K fs).1 p = some j := by
  have h0 := left1_ok hT hR hf h1n
  have h1 := ScanI.scan hT.scanS (hR.scanS hT) h0 n
  obtain ⟨hP, hL, hS⟩ := pass1_ok hT hR hf
  have hseed : ∀ j, j < n → insS n K j = false → ∃ p, (pass2 n c K fs).1 p = some j := fun j hj hi => by
    have : ∃ p, (pass1 n c K fs).1 p = some j := by
      cases hk : K j with
      | false => exact hL j hj hk
      | true =>
        have e : j = n - 1 := Classical.byContradiction fun h3 => by rw [insS_iff.2 ⟨hk, h3⟩] at hi; cases hi
        refine hS j ((hf.all j).2 ⟨by omega, hj, hk, ?_⟩)
        cases hk2 : K (j - 1) with
        | false => rfl
        | true =>
          have h2 := (hT.S (show j - 1 + 1 < n by omega) hk2).1
          have h3 := (hT.zero j hj).2 (by omega)
          rw [show j - 1 + 1 = j by omega, h3] at h2
          have := (hT.zero (j - 1) (by omega)).1 (by omega)
          omega
    obtain ⟨p, hp⟩ := this
    have hpn := hP.lt hT.scanL hp
    refine ⟨n - 1 - p, ScanI.scan_keep hT.scanS (hR.scanS hT) h0 ?_ n⟩
    unfold left1
    rw [if_pos (by omega), show n - 1 - (n - 1 - p) = p by omega, hp]
    simp only
    rw [if_neg (by rw [hi]; simp)]
  refine ⟨h1, fun j hj => ?_⟩
  cases hi : insS n K j with
  | false => exact hseed j hj hi
  | true =>
    refine ScanI.all hT.scanS h1 (fun j hj hi => ?_) (n - j) j (by omega) hj hi
    have h2 := (hT.scanS.next j hj hi).1
    cases h3 : insS n K (j + 1) with
    | true => exact .inl rfl
    | false => exact .inr (hseed (j + 1) h2 h3)
/-- The order is all places, by what it goes by. -/
theorem indF_ok (hT : Txt n c K) (hR : ByR n c K R R') {fs : List Nat} (hf : SowOk n c K R fs) (h1n : 1 < n) :
    (indF n c K fs).length = n ∧ (∀ j, j ∈ indF n c K fs ↔ j < n) ∧ (indF n c K fs).Pairwise R' ∧ (indF n c K fs).Nodup ∧ ∀ p, p < n → (pass2 n c K fs).1 p = some ((indF n c K fs).getD (n - 1 - p) 0) := by
  obtain ⟨h, hall⟩ := pass2_ok hT hR hf h1n
  obtain ⟨a, ha⟩ : ∃ a, a = (pass2 n c K fs).1 := ⟨_, rfl⟩
  have hd : indF n c K fs = (List.range n).map fun p => (a (n - 1 - p)).getD 0 := by unfold indF; rw [← ha]
  rw [← ha] at h hall ⊢
  have hfull : ∀ p, p < n → ∃ i, a p = some i := fun p hp => by
    cases hv : a p with
    | some i => exact ⟨i, rfl⟩
    | none =>
      have hpos : ∀ j, ∃ p', j < n → a p' = some j := fun j => by
        by_cases hj : j < n
        · obtain ⟨p', h1⟩ := hall j hj; exact ⟨p', fun _ => h1⟩
        · exact ⟨0, fun h => absurd h hj⟩
      let f := fun j => Classical.choose (hpos j)
      have hf : ∀ j, j < n → a (f j) = some j := fun j hj => Classical.choose_spec (hpos j) hj
      have h1 := nodup_le (l := p :: (List.range n).map f) (m := List.range n) (by
        rw [List.nodup_cons]
        refine ⟨fun hm => ?_, nodup_map fun x y hx hy e => ?_⟩
        · obtain ⟨j, hj, e⟩ := List.mem_map.1 hm
          have := hf j (List.mem_range.1 hj)
          rw [e, hv] at this; cases this
        · have h2 := hf x hx
          rw [e, hf y hy] at h2
          exact (Option.some.inj h2).symm) (fun x hx => by
        rw [List.mem_range]
        rcases List.mem_cons.1 hx with rfl | hx
        · exact hp
        · obtain ⟨j, hj, rfl⟩ := List.mem_map.1 hx
          exact h.lt hT.scanS (hf j (List.mem_range.1 hj)))
      rw [List.length_cons, List.length_map, List.length_range] at h1
      omega
  have hval : ∀ p, p < n → a p = some ((a p).getD 0) := fun p hp => by
    obtain ⟨i, hi⟩ := hfull p hp
    rw [hi]; rfl
  refine ⟨by rw [hd, List.length_map, List.length_range], fun j => ?_, ?_, ?_, fun p hp => ?_⟩
  · rw [hd, List.mem_map]
    constructor
    · rintro ⟨p, hp, e⟩
      have h1 := hval (n - 1 - p) (by have := List.mem_range.1 hp; omega)
      rw [e] at h1
      exact (h.at_ h1).1
    · intro hj
      obtain ⟨p, hp⟩ := hall j hj
      have h1 := h.lt hT.scanS hp
      exact ⟨n - 1 - p, List.mem_range.2 (by omega), by rw [show n - 1 - (n - 1 - p) = p by omega, hp]; rfl⟩
  · rw [hd, List.pairwise_map]
    refine (List.pairwise_lt_range (n := n)).imp_of_mem fun {x y} hx hy hxy => ?_
    have hx' := List.mem_range.1 hx
    have hy' := List.mem_range.1 hy
    exact h.sort (n - 1 - y) (n - 1 - x) _ _ (by omega) (hval _ (by omega)) (hval _ (by omega))
  · rw [hd]
    refine nodup_map fun x y hx hy e => ?_
    have h1 := hval (n - 1 - x) (by omega)
    have h2 := hval (n - 1 - y) (by omega)
    rw [e] at h1
    have := h.inj _ _ _ h1 h2
    omega
  · rw [hd, List.getD_eq_getElem?_getD, List.getElem?_map, List.getElem?_eq_getElem (by rw [List.length_range]; omega)]
    simp only [List.getElem_range, Option.map_some, Option.getD_some]
    rw [show n - 1 - (n - 1 - p) = p by omega]
    exact hval p hp
end
end Go.Inc
namespace Go.Inc
/-- A text's codes. -/
def cdT (x : List Int) (i : Nat) : Nat := (x.getD i 0).toNat
theorem in_cell {x : List Int} {i : Nat} (h : i < x.length) : x.getD i 0 ∈ x := by
  rw [List.getD_eq_getElem?_getD, List.getElem?_eq_getElem h]
  exact List.getElem_mem h
theorem drop_at {x : List Int} {i : Nat} (h : i < x.length) : x.drop i = x.getD i 0 :: x.drop (i + 1) := by
  rw [List.drop_eq_getElem_cons h, List.getD_eq_getElem?_getD, List.getElem?_eq_getElem h]; rfl
theorem lsT_step {x : List Int} {i j : Nat} (hi : i < x.length) (hj : j < x.length) : lsT x i j = true ↔ x.getD i 0 < x.getD j 0 ∨ (x.getD i 0 = x.getD j 0 ∧ lsT x (i + 1) (j + 1) = true) := by
  unfold lsT
  rw [drop_at hi, drop_at hj, ltL_cons]
/-- A text of codes that aren't below 0. -/
structure InT (x : List Int) : Prop where
  right : RtL x
  nat : ∀ z ∈ x, 0 ≤ z
theorem InT.of {x : List Int} (h : ckT x = 0) : InT x := by
  obtain ⟨-, h2, h3⟩ := ckT_zero h
  exact ⟨h3, fun z hz => (h2 z hz).1⟩
theorem InT.cd {x : List Int} (h : InT x) {i : Nat} (hi : i < x.length) : x.getD i 0 = (cdT x i : Int) := by
  have := h.nat _ (in_cell hi)
  unfold cdT; omega
theorem InT.txt {x : List Int} (h : InT x) : Txt x.length (cdT x) (kdT x) where
  pos := h.right.1
  last := by
    unfold kdT
    rw [decide_eq_true (by have := h.right.1; omega)]; rfl
  zero i hi := by
    rw [← h.right.2 i hi, h.cd hi]
    omega
  kind i hi := by
    have h1 : kdT x i = lsT x i (i + 1) := by
      unfold kdT
      rw [decide_eq_false (by omega), Bool.false_or]
    rw [h1, lsT_step (by omega) hi, h.cd (show i < x.length by omega), h.cd hi]
    have h2 : (cdT x i : Int) = (cdT x (i + 1) : Int) → (lsT x (i + 1) (i + 1 + 1) = true ↔ kdT x (i + 1) = true) := fun e => by
      by_cases hl : i + 1 + 1 = x.length
      · have h3 := (h.right.2 (i + 1) hi).2 hl
        rw [h.cd hi] at h3
        have h4 := (h.right.2 i (by omega)).1 (by rw [h.cd (by omega)]; omega)
        omega
      · unfold kdT
        rw [decide_eq_false hl, Bool.false_or]
    constructor
    · rintro (h3 | ⟨h3, h4⟩)
      · exact .inl (by omega)
      · exact .inr ⟨by omega, (h2 h3).1 h4⟩
    · rintro (h3 | ⟨h3, h4⟩)
      · exact .inl (by omega)
      · exact .inr ⟨by omega, (h2 (by omega)).2 h4⟩
/-- One of kind L is ahead of one of kind S. -/
theorem InT.ls {x : List Int} (h : InT x) : ∀ d i j, x.length = i + d → i < x.length → j < x.length → cdT x i = cdT x j → kdT x i = false → kdT x j = true → lsT x i j = true
  | 0, i, j, h1, h2, _, _, _, _ => by omega
  | d + 1, i, j, h1, h2, h3, h4, h5, h6 => by
    obtain ⟨h7, h8, h9⟩ := h.txt.L h2 h5
    have hj : j + 1 < x.length := by
      refine Classical.byContradiction fun h10 => ?_
      have h11 := (h.txt.zero j h3).2 (by omega)
      rw [← h4] at h11
      have h12 := (h.txt.zero i h2).1 h11
      omega
    obtain ⟨h10, h11⟩ := h.txt.S hj h6
    rw [lsT_step h2 h3, h.cd h2, h.cd h3]
    right
    refine ⟨by omega, ?_⟩
    by_cases h12 : cdT x (i + 1) < cdT x (j + 1)
    · rw [lsT_step h7 hj, h.cd h7, h.cd hj]
      exact .inl (by omega)
    · exact InT.ls h d (i + 1) (j + 1) (by omega) h7 hj (by omega) (h9 (by omega)) (h11 (by omega)).1
def leS (x : List Int) (i j : Nat) : Prop := i = j ∨ lsT x i j = true
theorem InT.byS {x : List Int} (h : InT x) : ByR x.length (cdT x) (kdT x) (leS x) (leS x) := by
  have hc : ∀ i j, i < x.length → j < x.length → cdT x i < cdT x j → leS x i j := fun i j hi hj hc => .inr (by
    rw [lsT_step hi hj, h.cd hi, h.cd hj]; exact .inl (by omega))
  have hk : ∀ i j, i < x.length → j < x.length → cdT x i = cdT x j → kdT x i = false → kdT x j = true → leS x i j := fun i j hi hj hc h1 h2 =>
    .inr (h.ls (x.length - i) i j (by omega) hi hj hc h1 h2)
  have hs : ∀ i j, i + 1 < x.length → j + 1 < x.length → cdT x i = cdT x j → leS x (i + 1) (j + 1) → leS x i j := fun i j hi hj hc hl => by
    rcases hl with e | hl
    · exact .inl (by omega)
    · right
      rw [lsT_step (by omega) (by omega), h.cd (show i < x.length by omega), h.cd (show j < x.length by omega)]
      exact .inr ⟨by omega, hl⟩
  exact ⟨hc, hc, hk, hk, fun i j hi hj hc _ _ => hs i j hi hj hc, fun i j hi hj hc _ _ => hs i j hi hj hc, fun _ _ _ _ _ _ _ hl => hl⟩
theorem inF_mem {x : List Int} : ∀ {n j : Nat}, j ∈ fsT x n ↔ 0 < j ∧ j < n ∧ kdT x j = true ∧ kdT x (j - 1) = false
  | 0, j => by
    constructor
    · intro h; cases h
    · rintro ⟨-, h, -⟩; omega
  | n + 1, j => by
    show j ∈ (if 0 < n ∧ kdT x n = true ∧ kdT x (n - 1) = false then fsT x n ++ [n] else fsT x n) ↔ _
    split
    · rename_i h
      rw [List.mem_append, inF_mem, List.mem_singleton]
      constructor
      · rintro (h1 | rfl)
        · exact ⟨h1.1, by omega, h1.2.2⟩
        · exact ⟨h.1, by omega, h.2⟩
      · rintro ⟨h1, h2, h3⟩
        by_cases e : j = n
        · exact .inr e
        · exact .inl ⟨h1, by omega, h3⟩
    · rename_i h
      rw [inF_mem]
      constructor
      · rintro ⟨h1, h2, h3⟩; exact ⟨h1, by omega, h3⟩
      · rintro ⟨h1, h2, h3⟩
        by_cases e : j = n
        · subst e; exact absurd ⟨h1, h3⟩ h
        · exact ⟨h1, by omega, h3⟩
theorem inF_rise {x : List Int} : ∀ n, (fsT x n).Pairwise fun a b => a < b
  | 0 => List.Pairwise.nil
  | n + 1 => by
    show (if 0 < n ∧ kdT x n = true ∧ kdT x (n - 1) = false then fsT x n ++ [n] else fsT x n).Pairwise _
    split
    · rw [List.pairwise_append]
      refine ⟨inF_rise n, List.pairwise_singleton _ _, fun a ha b hb => ?_⟩
      obtain rfl : b = n := by simpa using hb
      exact (inF_mem.1 ha).2.1
    · exact inF_rise n
/-- The order that is induced from first Ss. -/
def indT (x : List Int) (fs : List Nat) : List Nat := if x.length = 1 then [0] else indF x.length (cdT x) (kdT x) fs
/-- The first Ss, in any order. -/
def isFs (x : List Int) (fs : List Nat) : Prop := fs.Nodup ∧ ∀ j, j ∈ fs ↔ j ∈ fsT x x.length
theorem InT.two {x : List Int} (h : InT x) (h1 : x.length ≠ 1) : 1 < x.length := by have := h.right.1; omega
/-- From the first Ss in the order of their suffixes comes the order of all. -/
theorem ind_sort {x : List Int} (h : InT x) : indT x ((srT x x.length).filter fun j => decide (j ∈ fsT x x.length)) = srT x x.length := by
  by_cases h1 : x.length = 1
  · unfold indT
    rw [if_pos h1, h1]
    show [0] = insT x [] 0
    rfl
  · have h2 := h.two h1
    have hsr := srT_sorted (x := x) (Nat.le_refl _)
    have hf : SowOk x.length (cdT x) (kdT x) (leS x) ((srT x x.length).filter fun j => decide (j ∈ fsT x x.length)) := by
      refine ⟨(nodup_rise hsr).filter _, fun j => ?_, (hsr.filter _).imp fun {a b} hab _ => .inr hab⟩
      rw [List.mem_filter, srT_mem, decide_eq_true_iff, inF_mem]
      unfold msK
      constructor
      · rintro ⟨-, h3⟩; exact h3
      · intro h3; exact ⟨h3.2.1, h3⟩
    obtain ⟨h3, h4, h5, h6, -⟩ := indF_ok h.txt h.byS hf h2
    unfold indT
    rw [if_neg h1]
    refine srT_is ?_ h4
    rw [List.nodup_iff_pairwise_ne] at h6
    exact h5.imp₂ (fun {a b} h7 h8 => h7.resolve_left h8) h6
end Go.Inc
namespace Go.Inc
/-- Is a list of numbers less than another one? -/
def ltN : List Nat → List Nat → Bool
  | a :: as, b :: bs => decide (a < b) || (decide (a = b) && ltN as bs)
  | [], _ :: _ => true
  | _, [] => false
theorem ltN_cons (a b : Nat) (as bs : List Nat) : ltN (a :: as) (b :: bs) = true ↔ a < b ∨ (a = b ∧ ltN as bs = true) := by
  show (decide (a < b) || (decide (a = b) && ltN as bs)) = true ↔ _
  simp
theorem ltN_irrefl : ∀ A : List Nat, ¬ ltN A A = true
  | [] => fun h => by cases h
  | a :: as => fun h => by
    rw [ltN_cons] at h
    rcases h with h | h
    · omega
    · exact ltN_irrefl as h.2
theorem ltN_trans : ∀ {A B C : List Nat}, ltN A B = true → ltN B C = true → ltN A C = true
  | [], [], _, h, _ => by cases h
  | [], _ :: _, [], _, h => by cases h
  | [], _ :: _, _ :: _, _, _ => rfl
  | _ :: _, [], _, h, _ => by cases h
  | _ :: _, _ :: _, [], _, h => by cases h
  | a :: as, b :: bs, c :: cs, h, k => by
    rw [ltN_cons] at h k ⊢
    rcases h with h | ⟨rfl, h⟩
    · rcases k with k | ⟨rfl, k⟩
      · exact .inl (by omega)
      · exact .inl h
    · rcases k with k | ⟨rfl, k⟩
      · exact .inl k
      · exact .inr ⟨rfl, ltN_trans h k⟩
theorem ltN_total : ∀ {A B : List Nat}, ¬ ltN A B = true → ¬ ltN B A = true → A = B
  | [], [], _, _ => rfl
  | [], _ :: _, h, _ => absurd rfl h
  | _ :: _, [], _, h => absurd rfl h
  | a :: as, b :: bs, h, k => by
    rw [ltN_cons] at h k
    have e : a = b := by
      rcases Nat.lt_trichotomy a b with h1 | h1 | h1
      · exact absurd (.inl h1) h
      · exact h1
      · exact absurd (.inl h1) k
    subst e
    rw [ltN_total (fun h1 => h (.inr ⟨rfl, h1⟩)) fun h1 => k (.inr ⟨rfl, h1⟩)]
/-- The document's comparing: below 0 if the first one is less; one that the other one begins with is greater. -/
def cmpP : List Int → List Int → Int
  | a :: as, b :: bs => if a = b then cmpP as bs else a - b
  | [], bs => bs.length
  | as, [] => -(as.length : Int)
theorem cmpP_cons (a b : Int) (as bs : List Int) : cmpP (a :: as) (b :: bs) = if a = b then cmpP as bs else a - b := rfl
theorem cmpP_self : ∀ A : List Int, cmpP A A = 0
  | [] => rfl
  | a :: as => by rw [cmpP_cons, if_pos rfl]; exact cmpP_self as
theorem cmpP_turn : ∀ A B : List Int, cmpP A B = - cmpP B A
  | [], [] => rfl
  | [], _ :: _ => by show ((_ :: _ : List Int).length : Int) = - (- ((_ :: _ : List Int).length : Int)); omega
  | _ :: _, [] => rfl
  | a :: as, b :: bs => by
    rw [cmpP_cons, cmpP_cons]
    by_cases h : a = b
    · rw [if_pos h, if_pos h.symm]; exact cmpP_turn as bs
    · rw [if_neg h, if_neg (fun e => h e.symm)]; omega
section
variable (n : Nat) (c : Nat → Nat) (K : Nat → Bool)
/-- A code with its kind. -/
def kc (i : Nat) : Nat := 2 * c i + (if K i = true then 1 else 0)
/-- What the first scan goes by: up to the next S; what the second one goes by: a piece. -/
def e2F : Nat → Nat → List Nat
  | 0, i => [kc c K i]
  | d + 1, i => if K i = true then [kc c K i] else kc c K i :: e2F d (i + 1)
def e3F : Nat → Nat → List Nat
  | 0, i => [kc c K i]
  | d + 1, i => if K i = true then kc c K i :: e3F d (i + 1) else kc c K i :: e2F c K d (i + 1)
def e2P (i : Nat) : List Nat := e2F c K (n - 1 - i) i
def e3P (i : Nat) : List Nat := e3F c K (n - 1 - i) i
end
section
variable {n : Nat} {c : Nat → Nat} {K : Nat → Bool}
theorem e2_S {i : Nat} (hk : K i = true) : e2P n c K i = [kc c K i] := by
  unfold e2P
  cases n - 1 - i with
  | zero => rfl
  | succ d => show (if K i = true then _ else _) = _; rw [if_pos hk]
theorem e2_L (h : Txt n c K) {i : Nat} (hi : i < n) (hk : K i = false) : e2P n c K i = kc c K i :: e2P n c K (i + 1) := by
  have h1 := (h.L hi hk).1
  unfold e2P
  rw [show n - 1 - i = (n - 1 - (i + 1)) + 1 by omega]
  show (if K i = true then _ else _) = _
  rw [if_neg (by rw [hk]; simp)]
theorem e3_L (h : Txt n c K) {i : Nat} (hi : i < n) (hk : K i = false) : e3P n c K i = e2P n c K i := by
  have h1 := (h.L hi hk).1
  rw [e2_L h hi hk]
  unfold e3P e2P
  rw [show n - 1 - i = (n - 1 - (i + 1)) + 1 by omega]
  show (if K i = true then _ else _) = _
  rw [if_neg (by rw [hk]; simp)]
theorem e3_S {i : Nat} (hi : i + 1 < n) (hk : K i = true) : e3P n c K i = kc c K i :: e3P n c K (i + 1) := by
  unfold e3P
  rw [show n - 1 - i = (n - 1 - (i + 1)) + 1 by omega]
  show (if K i = true then _ else _) = _
  rw [if_pos hk]
theorem e3_last (h : Txt n c K) : e3P n c K (n - 1) = [1] := by
  unfold e3P
  rw [Nat.sub_self]
  show [kc c K (n - 1)] = [1]
  unfold kc
  rw [h.last, (h.zero (n - 1) (by have := h.pos; omega)).2 (by have := h.pos; omega)]
  rfl
theorem e2_head (h : Txt n c K) {i : Nat} (hi : i < n) : ∃ t, e2P n c K i = kc c K i :: t := by
  cases hk : K i with
  | true => exact ⟨_, e2_S hk⟩
  | false => exact ⟨_, e2_L h hi hk⟩
theorem e3_head (h : Txt n c K) {i : Nat} (hi : i < n) : ∃ t, e3P n c K i = kc c K i :: t := by
  by_cases hl : i + 1 < n
  · cases hk : K i with
    | true => exact ⟨_, e3_S hl hk⟩
    | false => rw [e3_L h hi hk]; exact e2_head h hi
  · obtain rfl : i = n - 1 := by omega
    rw [e3_last h]
    refine ⟨[], ?_⟩
    unfold kc
    rw [h.last, (h.zero (n - 1) (by have := h.pos; omega)).2 (by have := h.pos; omega)]
    rfl
def leE (e : Nat → List Nat) (i j : Nat) : Prop := ¬ ltN (e j) (e i) = true
theorem leE_head {e : Nat → List Nat} {i j a b : Nat} {as bs : List Nat} (hi : e i = a :: as) (hj : e j = b :: bs) (h : a < b) : leE e i j := by
  unfold leE
  rw [hi, hj, ltN_cons]
  rintro (h1 | ⟨h1, -⟩) <;> omega
theorem kc_lt {i j : Nat} (h : c i < c j) : kc c K i < kc c K j := by
  unfold kc; split <;> split <;> omega
theorem kc_kind {i j : Nat} (h : c i = c j) (h1 : K i = false) (h2 : K j = true) : kc c K i < kc c K j := by
  unfold kc; rw [h1, h2, h]; simp
theorem kc_eq {i j : Nat} : kc c K i = kc c K j ↔ c i = c j ∧ K i = K j := by
  unfold kc
  constructor
  · intro h
    cases h1 : K i <;> cases h2 : K j <;> rw [h1, h2] at h <;> simp at h <;> first | (exact ⟨by omega, rfl⟩) | omega
  · rintro ⟨h1, h2⟩; rw [h1, h2]
theorem Txt.byP (h : Txt n c K) : ByR n c K (leE (e2P n c K)) (leE (e3P n c K)) where
  code i j hi hj hc := by
    obtain ⟨s, hs⟩ := e2_head h hi
    obtain ⟨t, ht⟩ := e2_head h hj
    exact leE_head hs ht (kc_lt hc)
  code' i j hi hj hc := by
    obtain ⟨s, hs⟩ := e3_head h hi
    obtain ⟨t, ht⟩ := e3_head h hj
    exact leE_head hs ht (kc_lt hc)
  kind i j hi hj hc h1 h2 := by
    obtain ⟨s, hs⟩ := e2_head h hi
    obtain ⟨t, ht⟩ := e2_head h hj
    exact leE_head hs ht (kc_kind hc h1 h2)
  kind' i j hi hj hc h1 h2 := by
    obtain ⟨s, hs⟩ := e3_head h hi
    obtain ⟨t, ht⟩ := e3_head h hj
    exact leE_head hs ht (kc_kind hc h1 h2)
  step i j hi hj hc h1 h2 hl := by
    unfold leE at hl ⊢
    rw [e2_L h (show i < n by omega) h1, e2_L h (show j < n by omega) h2, ltN_cons]
    rintro (h3 | ⟨-, h3⟩)
    · have := (kc_eq (c := c) (K := K)).2 ⟨hc, h1.trans h2.symm⟩; omega
    · exact hl h3
  step' i j hi hj hc h1 h2 hl := by
    unfold leE at hl ⊢
    rw [e3_S hi h1, e3_S hj h2, ltN_cons]
    rintro (h3 | ⟨-, h3⟩)
    · have := (kc_eq (c := c) (K := K)).2 ⟨hc, h1.trans h2.symm⟩; omega
    · exact hl h3
  both i j hi hj _ h1 h2 hl := by
    unfold leE at hl ⊢
    rw [e3_L h hi h1, e3_L h hj h2]; exact hl
/-- Codes of such a list. -/
def cdE (l : List Nat) : List Int := l.map fun v : Nat => ((v / 2 : Nat) : Int)
theorem kc_half (i : Nat) : kc c K i / 2 = c i := by
  unfold kc; split <;> omega
theorem cdE_cons (i : Nat) (l : List Nat) : cdE (kc c K i :: l) = (c i : Int) :: cdE l := by
  show (((kc c K i / 2 : Nat)) : Int) :: cdE l = _
  rw [kc_half]
theorem cdE_len (l : List Nat) : (cdE l).length = l.length := by simp [cdE]
/-- One of kind L is less than one of kind S, if their codes are the same: whether the S goes on or not. -/
theorem cmp_ls (h : Txt n c K) : ∀ d i j, n = i + d → i < n → j < n → c i = c j → K i = false → K j = true → cmpP (cdE (e2P n c K i)) (cdE (e2P n c K j)) < 0 ∧ cmpP (cdE (e2P n c K i)) (cdE (e3P n c K j)) < 0
  | 0, i, j, h1, h2, _, _, _, _ => by omega
  | d + 1, i, j, h1, h2, h3, h4, h5, h6 => by
    obtain ⟨h7, h8, h9⟩ := h.L h2 h5
    have hj : j + 1 < n := by
      refine Classical.byContradiction fun h10 => ?_
      have h11 := (h.zero j h3).2 (by omega)
      rw [← h4] at h11
      have h12 := (h.zero i h2).1 h11
      omega
    obtain ⟨h10, h11⟩ := h.S hj h6
    obtain ⟨t, ht⟩ := e2_head h h7
    rw [e2_L h h2 h5, e2_S h6, e3_S hj h6, cdE_cons, cdE_cons, cdE_cons, cmpP_cons, cmpP_cons, if_pos (by omega), if_pos (by omega)]
    constructor
    · rw [ht, cdE_cons]
      show -(((c (i + 1) : Int) :: cdE t).length : Int) < 0
      rw [List.length_cons]; omega
    · by_cases h12 : c (i + 1) < c (j + 1)
      · obtain ⟨u, hu⟩ := e3_head h hj
        rw [ht, hu, cdE_cons, cdE_cons, cmpP_cons, if_neg (by omega)]
        omega
      · exact (cmp_ls h d (i + 1) (j + 1) (by omega) h7 hj (by omega) (h9 (by omega)) (h11 (by omega)).1).2
theorem cmp_e2 (h : Txt n c K) : ∀ d i j, n = i + d → i < n → j < n → ltN (e2P n c K i) (e2P n c K j) = true → cmpP (cdE (e2P n c K i)) (cdE (e2P n c K j)) < 0
  | 0, i, j, h1, h2, _, _ => by omega
  | d + 1, i, j, h1, h2, h3, h4 => by
    rcases Nat.lt_trichotomy (c i) (c j) with h5 | h5 | h5
    · obtain ⟨s, hs⟩ := e2_head h h2
      obtain ⟨t, ht⟩ := e2_head h h3
      rw [hs, ht, cdE_cons, cdE_cons, cmpP_cons, if_neg (by omega)]
      omega
    · cases hi : K i with
      | false =>
        cases hj : K j with
        | true => exact (cmp_ls h (d + 1) i j h1 h2 h3 h5 hi hj).1
        | false =>
          rw [e2_L h h2 hi, e2_L h h3 hj, ltN_cons] at h4
          rw [e2_L h h2 hi, e2_L h h3 hj, cdE_cons, cdE_cons, cmpP_cons, if_pos (by omega)]
          have he := (kc_eq (c := c) (K := K)).2 ⟨h5, hi.trans hj.symm⟩
          rcases h4 with h4 | ⟨-, h4⟩
          · omega
          · exact cmp_e2 h d (i + 1) (j + 1) (by omega) (h.L h2 hi).1 (h.L h3 hj).1 h4
      | true =>
        obtain ⟨t, ht⟩ := e2_head h h3
        rw [e2_S hi, ht, ltN_cons] at h4
        cases hj : K j with
        | true =>
          have he := (kc_eq (c := c) (K := K)).2 ⟨h5, hi.trans hj.symm⟩
          rw [e2_S hj] at ht
          cases ht
          rcases h4 with h4 | ⟨-, h4⟩
          · omega
          · cases h4
        | false =>
          have := kc_kind (K := K) h5.symm hj hi
          rcases h4 with h4 | ⟨h4, -⟩ <;> omega
    · obtain ⟨s, hs⟩ := e2_head h h2
      obtain ⟨t, ht⟩ := e2_head h h3
      have := kc_lt (K := K) h5
      rw [hs, ht, ltN_cons] at h4
      rcases h4 with h4 | ⟨h4, -⟩ <;> omega
/-- A piece that is less, with its kinds, is less by the document's comparing. -/
theorem cmp_e3 (h : Txt n c K) : ∀ d i j, n = i + d → i < n → j < n → ltN (e3P n c K i) (e3P n c K j) = true → cmpP (cdE (e3P n c K i)) (cdE (e3P n c K j)) < 0
  | 0, i, j, h1, h2, _, _ => by omega
  | d + 1, i, j, h1, h2, h3, h4 => by
    rcases Nat.lt_trichotomy (c i) (c j) with h5 | h5 | h5
    · obtain ⟨s, hs⟩ := e3_head h h2
      obtain ⟨t, ht⟩ := e3_head h h3
      rw [hs, ht, cdE_cons, cdE_cons, cmpP_cons, if_neg (by omega)]
      omega
    · cases hi : K i with
      | false =>
        rw [e3_L h h2 hi] at h4 ⊢
        cases hj : K j with
        | true => exact (cmp_ls h (d + 1) i j h1 h2 h3 h5 hi hj).2
        | false =>
          rw [e3_L h h3 hj] at h4 ⊢
          exact cmp_e2 h (d + 1) i j h1 h2 h3 h4
      | true =>
        cases hj : K j with
        | false =>
          obtain ⟨s, hs⟩ := e3_head h h2
          obtain ⟨t, ht⟩ := e3_head h h3
          have := kc_kind (K := K) h5.symm hj hi
          rw [hs, ht, ltN_cons] at h4
          rcases h4 with h4 | ⟨h4, -⟩ <;> omega
        | true =>
          by_cases hin : i + 1 < n
          · have hjn : j + 1 < n := by
              refine Classical.byContradiction fun h6 => ?_
              have h7 := (h.zero j h3).2 (by omega)
              rw [← h5] at h7
              have := (h.zero i h2).1 h7
              omega
            rw [e3_S hin hi, e3_S hjn hj, ltN_cons] at h4
            rw [e3_S hin hi, e3_S hjn hj, cdE_cons, cdE_cons, cmpP_cons, if_pos (by omega)]
            have he := (kc_eq (c := c) (K := K)).2 ⟨h5, hi.trans hj.symm⟩
            rcases h4 with h4 | ⟨-, h4⟩
            · omega
            · exact cmp_e3 h d (i + 1) (j + 1) (by omega) hin hjn h4
          · have h7 := (h.zero i h2).2 (by omega)
            rw [h5] at h7
            have h8 := (h.zero j h3).1 h7
            have e : i = j := by omega
            rw [e] at h4
            exact absurd h4 (ltN_irrefl _)
    · obtain ⟨s, hs⟩ := e3_head h h2
      obtain ⟨t, ht⟩ := e3_head h h3
      have := kc_lt (K := K) h5
      rw [hs, ht, ltN_cons] at h4
      rcases h4 with h4 | ⟨h4, -⟩ <;> omega
theorem cmp_is (h : Txt n c K) {i j : Nat} (hi : i < n) (hj : j < n) : (cmpP (cdE (e3P n c K i)) (cdE (e3P n c K j)) < 0 ↔ ltN (e3P n c K i) (e3P n c K j) = true) ∧ (cmpP (cdE (e3P n c K i)) (cdE (e3P n c K j)) = 0 ↔ e3P n c K i = e3P n c K j) := by
  by_cases h1 : ltN (e3P n c K i) (e3P n c K j) = true
  · have h2 := cmp_e3 h (n - i) i j (by omega) hi hj h1
    refine ⟨⟨fun _ => h1, fun _ => h2⟩, fun h3 => by omega, fun h3 => ?_⟩
    rw [h3] at h1
    exact absurd h1 (ltN_irrefl _)
  · by_cases h2 : ltN (e3P n c K j) (e3P n c K i) = true
    · have h3 := cmp_e3 h (n - j) j i (by omega) hj hi h2
      rw [cmpP_turn] at h3
      refine ⟨⟨fun h4 => by omega, fun h4 => absurd h4 h1⟩, fun h4 => by omega, fun h4 => ?_⟩
      rw [h4] at h2
      exact absurd h2 (ltN_irrefl _)
    · have h3 := ltN_total h1 h2
      rw [h3, cmpP_self]
      exact ⟨⟨fun h4 => by omega, fun h4 => absurd h4 (ltN_irrefl _)⟩, fun _ => rfl, fun _ => rfl⟩
end
end Go.Inc
namespace Go.Inc
section
variable {n : Nat} {c : Nat → Nat} {K : Nat → Bool}
theorem e2_run (h : Txt n c K) {q : Nat} (hq : msK n K q) : ∀ d i, q = i + d → (i < q → K i = false) → (∀ j, i < j → j < q → ¬ msK n K j) → e2P n c K i = (List.range' i (d + 1)).map (kc c K)
  | 0, i, h1, _, _ => by
    obtain rfl : q = i := h1
    exact e2_S hq.2.2.1
  | d + 1, i, h1, h2, h3 => by
    have hk := h2 (by omega)
    rw [e2_L h (show i < n by have := hq.2.1; omega) hk, e2_run h hq d (i + 1) (by omega) (fun h4 => ?_) fun j h4 h5 => h3 j (by omega) h5]
    · rfl
    · cases h5 : K (i + 1) with
      | false => rfl
      | true => exact absurd ⟨by omega, by have := hq.2.1; omega, h5, by rw [Nat.add_sub_cancel]; exact hk⟩ (h3 (i + 1) (by omega) h4)
theorem e3_run (h : Txt n c K) {q : Nat} (hq : msK n K q) : ∀ d i, q = i + d + 1 → K i = true → (∀ j, i < j → j < q → ¬ msK n K j) → e3P n c K i = (List.range' i (d + 2)).map (kc c K)
  | 0, i, h1, hk, _ => by
    have := hq.2.2.2
    rw [show q - 1 = i by omega, hk] at this
    cases this
  | d + 1, i, h1, hk, h3 => by
    have hi : i + 1 < n := by have := hq.2.1; omega
    rw [e3_S hi hk]
    cases h4 : K (i + 1) with
    | true => rw [e3_run h hq d (i + 1) (by omega) h4 fun j h5 h6 => h3 j (by omega) h6]; rfl
    | false =>
      rw [e3_L h hi h4, e2_run h hq (d + 1) (i + 1) (by omega) (fun _ => h4) fun j h5 h6 => h3 j (by omega) h6]
      rfl
end
/-- The piece at a first S, as codes. -/
def pceT (x : List Int) (p : Nat) : List Int := cdE (e3P x.length (cdT x) (kdT x) p)
theorem cdE_run {x : List Int} (h : InT x) (i : Nat) : ∀ m, i + m ≤ x.length → cdE ((List.range' i m).map (kc (cdT x) (kdT x))) = (x.drop i).take m := by
  intro m
  induction m generalizing i with
  | zero => intro _; rfl
  | succ m ih =>
    intro hm
    rw [List.range'_succ, List.map_cons, cdE_cons, ih (i + 1) (by omega), drop_at (show i < x.length by omega), List.take_succ_cons, h.cd (by omega)]
theorem ms_fs {x : List Int} {j : Nat} : msK x.length (kdT x) j ↔ j ∈ fsT x x.length := by rw [inF_mem]; rfl
theorem rise_getD {l : List Nat} (h : l.Pairwise fun a b => a < b) {i j : Nat} (hij : i < j) (hj : j < l.length) : l.getD i 0 < l.getD j 0 := by
  rw [List.getD_eq_getElem?_getD, List.getD_eq_getElem?_getD, List.getElem?_eq_getElem (by omega), List.getElem?_eq_getElem hj]
  exact List.pairwise_iff_getElem.1 h i j (by omega) hj hij
theorem getD_inN {l : List Nat} {i : Nat} (h : i < l.length) : l.getD i 0 ∈ l := by
  rw [List.getD_eq_getElem?_getD, List.getElem?_eq_getElem h]
  exact List.getElem_mem h
theorem mem_getD {l : List Nat} {a : Nat} (h : a ∈ l) : ∃ i, i < l.length ∧ l.getD i 0 = a := by
  obtain ⟨i, hi, e⟩ := List.getElem_of_mem h
  exact ⟨i, hi, by rw [List.getD_eq_getElem?_getD, List.getElem?_eq_getElem hi]; exact e⟩
/-- A piece goes up to the next first S; the last one is that place alone. -/
theorem pce_next {x : List Int} (h : InT x) {k : Nat} (hk : k + 1 < (fsT x x.length).length) :
    pceT x ((fsT x x.length).getD k 0) = (x.drop ((fsT x x.length).getD k 0)).take ((fsT x x.length).getD (k + 1) 0 + 1 - (fsT x x.length).getD k 0) := by
  have hr := inF_rise (x := x) x.length
  have hlt := rise_getD hr (show k < k + 1 by omega) hk
  have hp := ms_fs.2 (getD_inN (show k < (fsT x x.length).length by omega))
  have hq := ms_fs.2 (getD_inN hk)
  have hno : ∀ j, (fsT x x.length).getD k 0 < j → j < (fsT x x.length).getD (k + 1) 0 → ¬ msK x.length (kdT x) j := fun j h1 h2 h3 => by
    obtain ⟨i, hi, e⟩ := mem_getD (ms_fs.1 h3)
    rcases Nat.lt_trichotomy i k with h4 | h4 | h4
    · have := rise_getD hr h4 (by omega); omega
    · subst h4; omega
    · by_cases h5 : i = k + 1
      · subst h5; omega
      · have := rise_getD hr (show k + 1 < i by omega) hi; omega
  generalize (fsT x x.length).getD k 0 = p at *
  generalize (fsT x x.length).getD (k + 1) 0 = q at *
  unfold pceT
  rw [e3_run h.txt hq (q - p - 1) p (by omega) hp.2.2.1 hno, cdE_run h p _ (by have := hq.2.1; omega)]
  congr 1
  omega
theorem fs_last {x : List Int} (h : InT x) (h1 : 1 < x.length) : x.length - 1 ∈ fsT x x.length := by
  rw [inF_mem]
  refine ⟨by omega, by omega, h.txt.last, ?_⟩
  cases hk : kdT x (x.length - 1 - 1) with
  | false => rfl
  | true =>
    have h2 := (h.txt.S (show x.length - 1 - 1 + 1 < x.length by omega) hk).1
    have h3 := (h.txt.zero (x.length - 1) (by omega)).2 (by omega)
    rw [show x.length - 1 - 1 + 1 = x.length - 1 by omega, h3] at h2
    have := (h.txt.zero (x.length - 1 - 1) (by omega)).1 (by omega)
    omega
theorem fs_lastD {x : List Int} (h : InT x) {k : Nat} (hk : k + 1 = (fsT x x.length).length) : (fsT x x.length).getD k 0 = x.length - 1 := by
  have hm := getD_inN (show k < (fsT x x.length).length by omega)
  have h1 := inF_mem.1 hm
  have h2 := fs_last h (by omega)
  obtain ⟨i, hi, e⟩ := mem_getD h2
  by_cases h3 : i = k
  · rw [← h3]; exact e
  · have := rise_getD (inF_rise (x := x) x.length) (show i < k by omega) (by omega)
    omega
theorem pce_last {x : List Int} (h : InT x) : pceT x (x.length - 1) = x.drop (x.length - 1) := by
  have hp := h.right.1
  unfold pceT
  rw [e3_last h.txt, drop_at (show x.length - 1 < x.length by omega), (h.right.2 (x.length - 1) (by omega)).2 (by omega), List.drop_of_length_le (by omega)]
  rfl
/-- How often the piece has changed, along places. -/
def chg (x : List Int) (g : List Nat) : Nat → Nat
  | 0 => 0
  | t + 1 => chg x g t + (if pceT x (g.getD (t + 1) 0) = pceT x (g.getD t 0) then 0 else 1)
theorem chg_mono (x : List Int) (g : List Nat) {s : Nat} : ∀ {t}, s ≤ t → chg x g s ≤ chg x g t
  | 0, h => by obtain rfl : s = 0 := by omega
               exact Nat.le_refl _
  | t + 1, h => by
    by_cases e : s = t + 1
    · subst e; exact Nat.le_refl _
    · have := chg_mono x g (show s ≤ t by omega)
      show _ ≤ chg x g t + _
      omega
theorem chg_same (x : List Int) (g : List Nat) {s : Nat} : ∀ {t}, s ≤ t → chg x g s = chg x g t → pceT x (g.getD s 0) = pceT x (g.getD t 0)
  | 0, h, _ => by obtain rfl : s = 0 := by omega
                  rfl
  | t + 1, h, he => by
    by_cases e : s = t + 1
    · subst e; rfl
    · have h1 := chg_mono x g (show s ≤ t by omega)
      have h2 : chg x g (t + 1) = chg x g t + (if pceT x (g.getD (t + 1) 0) = pceT x (g.getD t 0) then 0 else 1) := rfl
      by_cases h3 : pceT x (g.getD (t + 1) 0) = pceT x (g.getD t 0)
      · rw [if_pos h3] at h2
        rw [h3]
        exact chg_same x g (show s ≤ t by omega) (by omega)
      · rw [if_neg h3] at h2; omega
theorem chg_down (x : List Int) (g : List Nat) : ∀ t v, chg x g t = v + 1 → ∃ s, s < t ∧ chg x g s = v
  | 0, v, h => by cases h
  | t + 1, v, h => by
    have h2 : chg x g (t + 1) = chg x g t + (if pceT x (g.getD (t + 1) 0) = pceT x (g.getD t 0) then 0 else 1) := rfl
    by_cases h3 : chg x g t = v
    · exact ⟨t, by omega, h3⟩
    · have h4 : chg x g t = v + 1 := by split at h2 <;> omega
      obtain ⟨s, h5, h6⟩ := chg_down x g t v h4
      exact ⟨s, by omega, h6⟩
/-- The first Ss as they stand in an order; their names by places; how many names. -/
def gsT (x : List Int) (l : List Nat) : List Nat := l.filter fun j => decide (j ∈ fsT x x.length)
def nmT (x : List Int) (l : List Nat) : List Nat := (fsT x x.length).map fun f => chg x (gsT x l) ((gsT x l).idxOf f)
def ncT (x : List Int) (l : List Nat) : Nat := if gsT x l = [] then 0 else chg x (gsT x l) ((gsT x l).length - 1) + 1
theorem nmT_len (x : List Int) (l : List Nat) : (nmT x l).length = (fsT x x.length).length := by simp [nmT]
theorem nmT_get {x : List Int} {l : List Nat} {a : Nat} (h : a < (fsT x x.length).length) : (nmT x l).getD a 0 = chg x (gsT x l) ((gsT x l).idxOf ((fsT x x.length).getD a 0)) := by
  unfold nmT
  rw [List.getD_eq_getElem?_getD, List.getElem?_map, List.getElem?_eq_getElem h, List.getD_eq_getElem?_getD, List.getElem?_eq_getElem h]
  rfl
/-- All places, by their pieces. -/
structure ByP (x : List Int) (l : List Nat) : Prop where
  all : ∀ j, j ∈ l ↔ j < x.length
  nodup : l.Nodup
  sort : l.Pairwise (leE (e3P x.length (cdT x) (kdT x)))
theorem pce_iff {x : List Int} (h : InT x) {i j : Nat} (hi : i < x.length) (hj : j < x.length) : (pceT x i = pceT x j ↔ e3P x.length (cdT x) (kdT x) i = e3P x.length (cdT x) (kdT x) j) ∧ (cmpP (pceT x i) (pceT x j) < 0 ↔ ltN (e3P x.length (cdT x) (kdT x) i) (e3P x.length (cdT x) (kdT x) j) = true) := by
  obtain ⟨h1, h2⟩ := cmp_is h.txt hi hj
  refine ⟨⟨fun e => h2.1 ?_, fun e => by unfold pceT; rw [e]⟩, h1⟩
  have e' : cdE (e3P x.length (cdT x) (kdT x) i) = cdE (e3P x.length (cdT x) (kdT x) j) := e
  rw [e', cmpP_self]
theorem gs_mem {x : List Int} {l : List Nat} (hl : ByP x l) {j : Nat} : j ∈ gsT x l ↔ j ∈ fsT x x.length := by
  unfold gsT
  rw [List.mem_filter, decide_eq_true_iff, hl.all]
  exact ⟨fun h => h.2, fun h => ⟨(inF_mem.1 h).2.1, h⟩⟩
theorem gs_pw {x : List Int} {l : List Nat} (hl : ByP x l) : (gsT x l).Pairwise (leE (e3P x.length (cdT x) (kdT x))) := hl.sort.filter _
theorem gs_nodup {x : List Int} {l : List Nat} (hl : ByP x l) : (gsT x l).Nodup := hl.nodup.filter _
theorem idx_at {l : List Nat} {a : Nat} (h : a ∈ l) : l.idxOf a < l.length ∧ l.getD (l.idxOf a) 0 = a := by
  have h1 := List.idxOf_lt_length_of_mem h
  refine ⟨h1, ?_⟩
  rw [List.getD_eq_getElem?_getD, List.getElem?_eq_getElem h1]
  exact List.getElem_idxOf h1
theorem idx_getD {l : List Nat} (hn : l.Nodup) {s : Nat} (h : s < l.length) : l.idxOf (l.getD s 0) = s := by
  have e : l.getD s 0 = l[s] := by rw [List.getD_eq_getElem?_getD, List.getElem?_eq_getElem h]; rfl
  rw [e]
  exact (List.getElem_inj hn).1 (List.getElem_idxOf (List.idxOf_lt_length_of_mem (List.getElem_mem h)))
/-- Names tell the pieces' order. -/
theorem names_lt {x : List Int} (h : InT x) {l : List Nat} (hl : ByP x l) {a b : Nat} (ha : a ∈ fsT x x.length) (hb : b ∈ fsT x x.length) :
    chg x (gsT x l) ((gsT x l).idxOf a) < chg x (gsT x l) ((gsT x l).idxOf b) ↔ ltN (e3P x.length (cdT x) (kdT x) a) (e3P x.length (cdT x) (kdT x) b) = true := by
  have hpw := gs_pw hl
  obtain ⟨ha1, ha2⟩ := idx_at ((gs_mem hl).2 ha)
  obtain ⟨hb1, hb2⟩ := idx_at ((gs_mem hl).2 hb)
  have hal := (inF_mem.1 ha).2.1
  have hbl := (inF_mem.1 hb).2.1
  obtain ⟨g, hg⟩ : ∃ g, g = gsT x l := ⟨_, rfl⟩
  have hin : ∀ i, i < g.length → g.getD i 0 < x.length := fun i hi => by
    have := getD_inN hi
    rw [hg, gs_mem hl] at this
    rw [hg]
    exact (inF_mem.1 this).2.1
  rw [← hg] at hpw ha1 ha2 hb1 hb2 ⊢
  have hat : ∀ i j, i < j → j < g.length → leE (e3P x.length (cdT x) (kdT x)) (g.getD i 0) (g.getD j 0) := fun i j hij hj => by
    rw [List.getD_eq_getElem?_getD, List.getD_eq_getElem?_getD, List.getElem?_eq_getElem (by omega), List.getElem?_eq_getElem hj]
    exact List.pairwise_iff_getElem.1 hpw i j (by omega) hj hij
  generalize g.idxOf a = s at *
  generalize g.idxOf b = t at *
  have heq : s < t → e3P x.length (cdT x) (kdT x) a = e3P x.length (cdT x) (kdT x) b → chg x g s = chg x g t := fun hst he => by
    have : ∀ r, s ≤ r → r ≤ t → e3P x.length (cdT x) (kdT x) (g.getD r 0) = e3P x.length (cdT x) (kdT x) a := fun r h1 h2 => by
      by_cases e1 : r = s
      · rw [e1, ha2]
      · by_cases e2 : r = t
        · rw [e2, hb2, he]
        · have h3 := hat s r (by omega) (by omega)
          have h4 := hat r t (by omega) hb1
          unfold leE at h3 h4
          rw [ha2] at h3
          rw [hb2, ← he] at h4
          exact ltN_total h3 h4
    have h5 : ∀ r, s ≤ r → r ≤ t → chg x g r = chg x g s := fun r => by
      induction r with
      | zero => intro h1 _; obtain rfl : s = 0 := by omega
                rfl
      | succ r ih =>
        intro h1 h2
        by_cases e : s = r + 1
        · rw [e]
        · have h6 : chg x g (r + 1) = chg x g r + (if pceT x (g.getD (r + 1) 0) = pceT x (g.getD r 0) then 0 else 1) := rfl
          rw [h6, if_pos ((pce_iff h (hin _ (by omega)) (hin _ (by omega))).1.2 ((this (r + 1) h1 h2).trans (this r (by omega) (by omega)).symm)), ih (by omega) (by omega), Nat.add_zero]
    exact (h5 t (by omega) (Nat.le_refl _)).symm
  constructor
  · intro hlt
    have hst : s < t := by
      refine Classical.byContradiction fun h1 => ?_
      have := chg_mono x g (show t ≤ s by omega)
      omega
    have h1 := hat s t hst hb1
    unfold leE at h1
    rw [ha2, hb2] at h1
    refine Classical.byContradiction fun h2 => ?_
    have := heq hst (ltN_total h2 h1)
    omega
  · intro hlt
    have hst : s < t := by
      refine Classical.byContradiction fun h1 => ?_
      by_cases e : s = t
      · subst e
        rw [ha2] at hb2
        rw [hb2] at hlt
        exact ltN_irrefl _ hlt
      · have h2 := hat t s (by omega) ha1
        unfold leE at h2
        rw [ha2, hb2] at h2
        exact h2 hlt
    have h1 := chg_mono x g (show s ≤ t by omega)
    refine Classical.byContradiction fun h2 => ?_
    have h3 := chg_same x g (show s ≤ t by omega) (by omega)
    rw [ha2, hb2] at h3
    have h4 := (pce_iff h hal hbl).1.1 h3
    rw [h4] at hlt
    exact ltN_irrefl _ hlt
/-- Names don't hang on the order. -/
theorem names_one {x : List Int} (h : InT x) {l l' : List Nat} (hl : ByP x l) (hl' : ByP x l') : ∀ v a, a ∈ fsT x x.length → chg x (gsT x l) ((gsT x l).idxOf a) = v → v ≤ chg x (gsT x l') ((gsT x l').idxOf a)
  | 0, _, _, _ => Nat.zero_le _
  | v + 1, a, ha, he => by
    obtain ⟨s, h1, h2⟩ := chg_down x (gsT x l) _ v he
    have h3 := (idx_at ((gs_mem hl).2 ha)).1
    have h4 : (gsT x l).getD s 0 ∈ gsT x l := getD_inN (by omega)
    have hb := (gs_mem hl).1 h4
    have h5 := idx_getD (gs_nodup hl) (show s < (gsT x l).length by omega)
    rw [← h5] at h2
    have h6 := names_one h hl hl' v _ hb h2
    have h7 := (names_lt h hl hb ha).1 (by omega)
    have h8 := (names_lt h hl' hb ha).2 h7
    omega
theorem nmT_one {x : List Int} (h : InT x) {l l' : List Nat} (hl : ByP x l) (hl' : ByP x l') : nmT x l = nmT x l' := by
  unfold nmT
  apply List.map_congr_left
  intro a ha
  have h1 := names_one h hl hl' _ a ha rfl
  have h2 := names_one h hl' hl _ a ha rfl
  omega
/-- What is induced from any first Ss goes by pieces. -/
theorem ind_byP {x : List Int} (h : InT x) {fs : List Nat} (hf : isFs x fs) : ByP x (indT x fs) ∧ (indT x fs).length = x.length := by
  by_cases h1 : x.length = 1
  · unfold indT
    rw [if_pos h1]
    refine ⟨⟨fun j => ?_, by simp, List.pairwise_singleton _ _⟩, by rw [h1]; rfl⟩
    rw [h1, List.mem_singleton]; omega
  · have hs : SowOk x.length (cdT x) (kdT x) (leE (e2P x.length (cdT x) (kdT x))) fs := by
      refine ⟨hf.1, fun j => by rw [hf.2, ms_fs], ?_⟩
      rw [List.pairwise_iff_getElem]
      intro i j hi hj _ hc
      have h3 := ms_fs.2 ((hf.2 _).1 (List.getElem_mem hi))
      have h4 := ms_fs.2 ((hf.2 _).1 (List.getElem_mem hj))
      unfold leE
      rw [e2_S h3.2.2.1, e2_S h4.2.2.1, (kc_eq (c := cdT x) (K := kdT x)).2 ⟨hc, h3.2.2.1.trans h4.2.2.1.symm⟩]
      exact ltN_irrefl _
    obtain ⟨h3, h4, h5, h6, -⟩ := indF_ok h.txt h.txt.byP hs (h.two h1)
    unfold indT
    rw [if_neg h1]
    exact ⟨⟨h4, h6, h5⟩, h3⟩
end Go.Inc
namespace Go.Inc
open Go.RowKit
/-- All numbers from 0 on are there (then each is once: there is room for no more). -/
def okT (l : List Int) : Prop := ∀ n, n < l.length → ((n : Nat) : Int) ∈ l
instance (l : List Int) : Decidable (okT l) := inferInstanceAs (Decidable (∀ n, n < l.length → ((n : Nat) : Int) ∈ l))
/-- Where each number stands. -/
def tnT (l : List Int) : List Nat := (List.range l.length).map fun n => l.idxOf ((n : Nat) : Int)
theorem tnT_len (l : List Int) : (tnT l).length = l.length := by simp [tnT]
theorem tnT_get {l : List Int} {n : Nat} (h : n < l.length) : (tnT l).getD n 0 = l.idxOf (n : Int) := by
  unfold tnT
  rw [List.getD_eq_getElem?_getD, List.getElem?_map, List.getElem?_range h]; rfl
theorem room_perm : ∀ {r l : List Int}, r.Nodup → (∀ z ∈ r, z ∈ l) → l.length ≤ r.length → l.Perm r
  | [], l, _, _, h => by
    have : l = [] := List.eq_nil_of_length_eq_zero (by simpa using h)
    rw [this]
  | a :: r, l, hn, hs, h => by
    rw [List.nodup_cons] at hn
    have ha := hs a (by simp)
    have h1 := List.perm_cons_erase ha
    have hl := List.length_erase_of_mem ha
    have h0 : 0 < l.length := List.length_pos_of_mem ha
    refine h1.trans ((room_perm (l := l.erase a) hn.2 (fun z hz => ?_) ?_).cons a)
    · exact (List.mem_erase_of_ne (fun e => hn.1 (by rw [← e]; exact hz))).2 (hs z (List.mem_cons_of_mem _ hz))
    · rw [hl]; simp at h; omega
theorem range_nodup (n : Nat) : ((List.range n).map fun k : Nat => (k : Int)).Nodup := by
  refine List.Pairwise.map (R := fun a b : Nat => a ≠ b) _ (fun a b hab e => hab ?_) List.nodup_range
  exact Int.ofNat.inj e
theorem okT_perm {l : List Int} (h : okT l) : l.Perm ((List.range l.length).map fun n : Nat => (n : Int)) := by
  refine room_perm (l := l) (range_nodup _) ?_ (by simp)
  intro z hz
  obtain ⟨n, hn, rfl⟩ := List.mem_map.1 hz
  exact h n (List.mem_range.1 hn)
theorem okT_nodup {l : List Int} (h : okT l) : l.Nodup := by
  rw [(okT_perm h).nodup_iff]
  exact range_nodup _
theorem okT_in {l : List Int} (h : okT l) {z : Int} (hz : z ∈ l) : 0 ≤ z ∧ z < l.length := by
  obtain ⟨n, hn, rfl⟩ := List.mem_map.1 ((okT_perm h).mem_iff.1 hz)
  have := List.mem_range.1 hn
  omega
theorem getD_mem {l : List Int} {i : Nat} (h : i < l.length) : l.getD i 0 ∈ l := by
  rw [List.getD_eq_getElem?_getD, List.getElem?_eq_getElem h]; exact List.getElem_mem _
/-- Where a number stands, if each is once. -/
theorem at_is {l : List Int} (hn : l.Nodup) {i : Nat} (h : i < l.length) {z : Int} (hz : l.getD i 0 = z) : l.idxOf z = i := by
  rw [List.getD_eq_getElem?_getD, List.getElem?_eq_getElem h] at hz
  have hz' : l[i] = z := hz
  rw [← hz']
  exact hn.idxOf_getElem i h
theorem at_get {l : List Int} {z : Int} (h : z ∈ l) : l.idxOf z < l.length ∧ l.getD (l.idxOf z) 0 = z := by
  have h1 := List.idxOf_lt_length_of_mem h
  refine ⟨h1, ?_⟩
  rw [List.getD_eq_getElem?_getD, List.getElem?_eq_getElem h1]
  exact List.getElem_idxOf h1
/-- What was found is where each stands. -/
theorem tnT_is {l : List Int} {W : List Nat} (h0 : W.length = l.length) (h : ∀ j, j < l.length → W.getD j 0 < l.length ∧ l.getD (W.getD j 0) 0 = (j : Int)) : okT l ∧ W = tnT l := by
  have hok : okT l := fun n hn => by
    have := getD_mem (h n hn).1
    rw [(h n hn).2] at this; exact this
  refine ⟨hok, ?_⟩
  apply List.ext_getElem (by rw [h0, tnT_len])
  intro i h1 h2
  have hi : i < l.length := by omega
  have h3 := at_is (okT_nodup hok) (h i hi).1 (h i hi).2
  have h4 := tnT_get (l := l) hi
  rw [h3] at h4
  rw [List.getD_eq_getElem?_getD, List.getElem?_eq_getElem h2, List.getD_eq_getElem?_getD, List.getElem?_eq_getElem h1] at h4
  exact h4.symm
def zsN (l : List Nat) : List Int := l.map fun x : Nat => (x : Int)
theorem zsN_len (l : List Nat) : (zsN l).length = l.length := by simp [zsN]
theorem zsN_get {l : List Nat} (i : Nat) : (zsN l).getD i 0 = ((l.getD i 0 : Nat) : Int) := by
  unfold zsN
  rw [List.getD_eq_getElem?_getD, List.getElem?_map, List.getD_eq_getElem?_getD]
  cases l[i]? <;> rfl
/-- An order that is turned twice is itself. -/
theorem turn_twice {l : List Int} (h : okT l) : okT (zsN (tnT l)) ∧ zsN (tnT (zsN (tnT l))) = l := by
  have hnd := okT_nodup h
  have hW : ∀ j, j < (zsN (tnT l)).length → (l.map Int.toNat).getD j 0 < (zsN (tnT l)).length ∧ (zsN (tnT l)).getD ((l.map Int.toNat).getD j 0) 0 = (j : Int) := by
    intro j hj
    rw [zsN_len, tnT_len] at hj ⊢
    have hz := okT_in h (getD_mem hj)
    have e1 : (l.map Int.toNat).getD j 0 = (l.getD j 0).toNat := by
      rw [List.getD_eq_getElem?_getD, List.getElem?_map, List.getD_eq_getElem?_getD, List.getElem?_eq_getElem hj]; rfl
    rw [e1]
    have h1 : (l.getD j 0).toNat < l.length := by omega
    refine ⟨h1, ?_⟩
    rw [zsN_get, tnT_get h1, at_is hnd hj (by omega)]
  obtain ⟨h1, h2⟩ := tnT_is (l := zsN (tnT l)) (W := l.map Int.toNat) (by rw [List.length_map, zsN_len, tnT_len]) hW
  refine ⟨h1, ?_⟩
  rw [← h2]
  apply List.ext_getElem (by simp [zsN])
  intro i h3 h4
  have hz := okT_in h (List.getElem_mem h4)
  simp only [zsN, List.getElem_map]
  omega
end Go.Inc
namespace Go.Inc
/-- What is less by its pieces is the less suffix. -/
theorem e2_ls {x : List Int} (h : InT x) : ∀ d i j, x.length = i + d → i < x.length → j < x.length → ltN (e2P x.length (cdT x) (kdT x) i) (e2P x.length (cdT x) (kdT x) j) = true → lsT x i j = true
  | 0, i, j, h1, h2, _, _ => by omega
  | d + 1, i, j, h1, h2, h3, h4 => by
    have hT := h.txt
    obtain ⟨s, hs⟩ := e2_head hT h2
    obtain ⟨t, ht⟩ := e2_head hT h3
    rw [lsT_step h2 h3, h.cd h2, h.cd h3]
    rcases Nat.lt_trichotomy (cdT x i) (cdT x j) with h5 | h5 | h5
    · exact .inl (by omega)
    · cases hi : kdT x i with
      | false =>
        cases hj : kdT x j with
        | true =>
          have := h.ls (d + 1) i j h1 h2 h3 h5 hi hj
          rw [lsT_step h2 h3, h.cd h2, h.cd h3] at this
          exact this
        | false =>
          rw [e2_L hT h2 hi, e2_L hT h3 hj, ltN_cons] at h4
          have he := (kc_eq (c := cdT x) (K := kdT x)).2 ⟨h5, hi.trans hj.symm⟩
          rcases h4 with h4 | ⟨-, h4⟩
          · omega
          · exact .inr ⟨by omega, e2_ls h d (i + 1) (j + 1) (by omega) (hT.L h2 hi).1 (hT.L h3 hj).1 h4⟩
      | true =>
        rw [e2_S hi, ht, ltN_cons] at h4
        cases hj : kdT x j with
        | true =>
          have he := (kc_eq (c := cdT x) (K := kdT x)).2 ⟨h5, hi.trans hj.symm⟩
          rw [e2_S hj] at ht
          cases ht
          rcases h4 with h4 | ⟨-, h4⟩
          · omega
          · cases h4
        | false =>
          have := kc_kind (K := kdT x) h5.symm hj hi
          rcases h4 with h4 | ⟨h4, -⟩ <;> omega
    · have := kc_lt (K := kdT x) h5
      rw [hs, ht, ltN_cons] at h4
      rcases h4 with h4 | ⟨h4, -⟩ <;> omega
theorem e3_ls {x : List Int} (h : InT x) : ∀ d i j, x.length = i + d → i < x.length → j < x.length → ltN (e3P x.length (cdT x) (kdT x) i) (e3P x.length (cdT x) (kdT x) j) = true → lsT x i j = true
  | 0, i, j, h1, h2, _, _ => by omega
  | d + 1, i, j, h1, h2, h3, h4 => by
    have hT := h.txt
    obtain ⟨s, hs⟩ := e3_head hT h2
    obtain ⟨t, ht⟩ := e3_head hT h3
    rcases Nat.lt_trichotomy (cdT x i) (cdT x j) with h5 | h5 | h5
    · rw [lsT_step h2 h3, h.cd h2, h.cd h3]
      exact .inl (by omega)
    · cases hi : kdT x i with
      | false =>
        cases hj : kdT x j with
        | true => exact h.ls (d + 1) i j h1 h2 h3 h5 hi hj
        | false =>
          rw [e3_L hT h2 hi, e3_L hT h3 hj] at h4
          exact e2_ls h (d + 1) i j h1 h2 h3 h4
      | true =>
        cases hj : kdT x j with
        | false =>
          have := kc_kind (K := kdT x) h5.symm hj hi
          rw [hs, ht, ltN_cons] at h4
          rcases h4 with h4 | ⟨h4, -⟩ <;> omega
        | true =>
          by_cases hin : i + 1 < x.length
          · have hjn : j + 1 < x.length := by
              refine Classical.byContradiction fun h6 => ?_
              have h7 := (hT.zero j h3).2 (by omega)
              rw [← h5] at h7
              have := (hT.zero i h2).1 h7
              omega
            rw [e3_S hin hi, e3_S hjn hj, ltN_cons] at h4
            have he := (kc_eq (c := cdT x) (K := kdT x)).2 ⟨h5, hi.trans hj.symm⟩
            rcases h4 with h4 | ⟨-, h4⟩
            · omega
            · rw [lsT_step h2 h3, h.cd h2, h.cd h3]
              exact .inr ⟨by omega, e3_ls h d (i + 1) (j + 1) (by omega) hin hjn h4⟩
          · have h7 := (hT.zero i h2).2 (by omega)
            rw [h5] at h7
            have h8 := (hT.zero j h3).1 h7
            have e : i = j := by omega
            rw [e] at h4
            exact absurd h4 (ltN_irrefl _)
    · have := kc_lt (K := kdT x) h5
      rw [hs, ht, ltN_cons] at h4
      rcases h4 with h4 | ⟨h4, -⟩ <;> omega
theorem lsT_skip {x : List Int} {i j : Nat} : ∀ d, i + d ≤ x.length → j + d ≤ x.length → (∀ t, t < d → x.getD (i + t) 0 = x.getD (j + t) 0) → (lsT x (i + d) (j + d) = true ↔ lsT x i j = true)
  | 0, _, _, _ => Iff.rfl
  | d + 1, h1, h2, h3 => by
    rw [← lsT_skip d (by omega) (by omega) fun t ht => h3 t (by omega), lsT_step (i := i + d) (j := j + d) (by omega) (by omega)]
    have := h3 d (by omega)
    constructor
    · intro h; exact .inr ⟨this, h⟩
    · rintro (h | h)
      · omega
      · exact h.2
/-- First Ss are two places apart at least. -/
theorem fs_gap {x : List Int} : ∀ k, k < (fsT x x.length).length → 2 * k + 1 ≤ (fsT x x.length).getD k 0
  | 0, h => by
    have := (inF_mem.1 (getD_inN h)).1
    omega
  | k + 1, h => by
    have h1 := fs_gap (x := x) k (by omega)
    have h2 := rise_getD (inF_rise (x := x) x.length) (show k < k + 1 by omega) h
    have h3 := inF_mem.1 (getD_inN (show k < (fsT x x.length).length by omega))
    have h4 := inF_mem.1 (getD_inN h)
    refine Classical.byContradiction fun h5 => ?_
    have h6 := h4.2.2.2
    rw [show (fsT x x.length).getD (k + 1) 0 - 1 = (fsT x x.length).getD k 0 by omega, h3.2.2.1] at h6
    cases h6
theorem fs_half {x : List Int} : 2 * (fsT x x.length).length ≤ x.length := by
  by_cases h : (fsT x x.length).length = 0
  · omega
  · have h1 := fs_gap (x := x) ((fsT x x.length).length - 1) (by omega)
    have h2 := (inF_mem.1 (getD_inN (show (fsT x x.length).length - 1 < (fsT x x.length).length by omega))).2.1
    omega
theorem chg_le (x : List Int) (g : List Nat) : ∀ t, chg x g t ≤ t
  | 0 => Nat.le_refl _
  | t + 1 => by
    have := chg_le x g t
    show chg x g t + (if _ then 0 else 1) ≤ t + 1
    split <;> omega
/-- The reduced text. -/
def rdT (x : List Int) : List Int := zsN (nmT x (indT x (fsT x x.length)))
theorem isFs_own (x : List Int) : isFs x (fsT x x.length) := by
  refine ⟨?_, fun j => Iff.rfl⟩
  rw [List.nodup_iff_pairwise_ne]
  exact (inF_rise (x := x) x.length).imp fun {a b} h => by omega
theorem rd_len (x : List Int) : (rdT x).length = (fsT x x.length).length := by unfold rdT; rw [zsN_len, nmT_len]
theorem rd_get {x : List Int} {l : List Nat} (h : InT x) (hl : ByP x l) {a : Nat} (ha : a < (fsT x x.length).length) : (rdT x).getD a 0 = ((chg x (gsT x l) ((gsT x l).idxOf ((fsT x x.length).getD a 0)) : Nat) : Int) := by
  unfold rdT
  rw [nmT_one h (ind_byP h (isFs_own x)).1 hl, zsN_get, nmT_get ha]
theorem rd_lt {x : List Int} (h : InT x) {a b : Nat} (ha : a < (fsT x x.length).length) (hb : b < (fsT x x.length).length) :
    (rdT x).getD a 0 < (rdT x).getD b 0 ↔ ltN (e3P x.length (cdT x) (kdT x) ((fsT x x.length).getD a 0)) (e3P x.length (cdT x) (kdT x) ((fsT x x.length).getD b 0)) = true := by
  have hl := (ind_byP h (isFs_own x)).1
  rw [rd_get h hl ha, rd_get h hl hb, ← names_lt h hl (getD_inN ha) (getD_inN hb)]
  omega
/-- It is a text. -/
theorem rd_ok {x : List Int} (h : InT x) (hx : x.length ≤ 65536) (h2 : 2 ≤ (fsT x x.length).length) : ckT (rdT x) = 0 := by
  have hl := (ind_byP h (isFs_own x)).1
  have hn := fs_half (x := x)
  have hlen := rd_len x
  have hT := h.txt
  have hlast : ∀ a, a < (fsT x x.length).length → a + 1 ≠ (fsT x x.length).length → ltN (e3P x.length (cdT x) (kdT x) (x.length - 1)) (e3P x.length (cdT x) (kdT x) ((fsT x x.length).getD a 0)) = true := fun a ha hne => by
    have hm := inF_mem.1 (getD_inN ha)
    have h3 := rise_getD (inF_rise (x := x) x.length) (show a < (fsT x x.length).length - 1 by omega) (by omega)
    have h4 := fs_lastD h (show (fsT x x.length).length - 1 + 1 = (fsT x x.length).length by omega)
    obtain ⟨t, ht⟩ := e3_head hT hm.2.1
    rw [e3_last hT, ht, ltN_cons]
    left
    have h5 : cdT x ((fsT x x.length).getD a 0) ≠ 0 := fun e => by
      have := (hT.zero _ hm.2.1).1 e
      omega
    unfold kc
    omega
  have hm1 : (fsT x x.length).length - 1 < (fsT x x.length).length := by omega
  have hld := fs_lastD h (show (fsT x x.length).length - 1 + 1 = (fsT x x.length).length by omega)
  have hz : (rdT x).getD ((fsT x x.length).length - 1) 0 = 0 := by
    rw [rd_get h hl hm1]
    cases hv : chg x (gsT x (indT x (fsT x x.length))) ((gsT x (indT x (fsT x x.length))).idxOf ((fsT x x.length).getD ((fsT x x.length).length - 1) 0)) with
    | zero => rfl
    | succ v =>
      obtain ⟨s, h3, h4⟩ := chg_down _ _ _ v hv
      have h5 := (idx_at ((gs_mem hl).2 (getD_inN hm1))).1
      have h6 : (gsT x (indT x (fsT x x.length))).getD s 0 ∈ gsT x (indT x (fsT x x.length)) := getD_inN (by omega)
      have h7 := idx_getD (gs_nodup hl) (show s < (gsT x (indT x (fsT x x.length))).length by omega)
      obtain ⟨b, hb, e⟩ := mem_getD ((gs_mem hl).1 h6)
      have h8 := (names_lt h hl ((gs_mem hl).1 h6) (getD_inN hm1)).1 (by rw [h7]; omega)
      rw [← e, hld] at h8
      by_cases e2 : b + 1 = (fsT x x.length).length
      · rw [fs_lastD h e2] at h8
        exact absurd h8 (ltN_irrefl _)
      · have h9 := hlast b hb e2
        exact absurd (ltN_trans h8 h9) (ltN_irrefl _)
  unfold ckT
  rw [if_neg (by omega), if_neg, if_pos]
  · refine ⟨by omega, fun i hi => ?_⟩
    rw [hlen] at hi ⊢
    constructor
    · intro h3
      refine Classical.byContradiction fun h4 => ?_
      have h5 := (rd_lt h hm1 hi).2 (by rw [hld]; exact hlast i hi h4)
      rw [hz, h3] at h5
      omega
    · intro h3
      rw [show i = (fsT x x.length).length - 1 by omega]
      exact hz
  · intro h3
    refine h3 fun z hz2 => ?_
    obtain ⟨i, hi, e⟩ := List.getElem_of_mem hz2
    have h4 : (rdT x).getD i 0 = z := by rw [List.getD_eq_getElem?_getD, List.getElem?_eq_getElem hi]; exact e
    rw [hlen] at hi
    rw [rd_get h hl hi] at h4
    have h5 := chg_le x (gsT x (indT x (fsT x x.length))) ((gsT x (indT x (fsT x x.length))).idxOf ((fsT x x.length).getD i 0))
    have h6 := (idx_at ((gs_mem hl).2 (getD_inN hi))).1
    have h7 := List.length_filter_le (fun j => decide (j ∈ fsT x x.length)) (indT x (fsT x x.length))
    have h8 := (ind_byP h (isFs_own x)).2
    have h9 : (gsT x (indT x (fsT x x.length))).length ≤ (indT x (fsT x x.length)).length := h7
    omega
/-- Its suffixes stand as those of the first Ss. -/
theorem rd_ls {x : List Int} (h : InT x) (hx : x.length ≤ 65536) (h2 : 2 ≤ (fsT x x.length).length) : ∀ d a b, (fsT x x.length).length = a + d → a < (fsT x x.length).length → b < (fsT x x.length).length → lsT (rdT x) a b = true → lsT x ((fsT x x.length).getD a 0) ((fsT x x.length).getD b 0) = true
  | 0, a, b, h3, h4, _, _ => by omega
  | d + 1, a, b, h3, h4, h5, h6 => by
    have hlen := rd_len x
    have hr := InT.of (rd_ok h hx h2)
    have hma := inF_mem.1 (getD_inN h4)
    have hmb := inF_mem.1 (getD_inN h5)
    rw [lsT_step (by omega) (by omega)] at h6
    rcases h6 with h6 | ⟨h6, h7⟩
    · exact e3_ls h (x.length - (fsT x x.length).getD a 0) _ _ (by omega) hma.2.1 hmb.2.1 ((rd_lt h h4 h5).1 h6)
    · by_cases ha : a + 1 = (fsT x x.length).length
      · have h8 := (hr.right.2 a (by omega)).2 (by omega)
        rw [h6] at h8
        have h9 := (hr.right.2 b (by omega)).1 h8
        have e : a = b := by omega
        subst e
        rw [lsT_irrefl] at h7; cases h7
      · by_cases hb : b + 1 = (fsT x x.length).length
        · have h8 := (hr.right.2 b (by omega)).2 (by omega)
          rw [← h6] at h8
          have h9 := (hr.right.2 a (by omega)).1 h8
          omega
        · have ih := rd_ls h hx h2 d (a + 1) (b + 1) (by omega) (by omega) (by omega) h7
          have h8 : ¬ ltN (e3P x.length (cdT x) (kdT x) ((fsT x x.length).getD a 0)) (e3P x.length (cdT x) (kdT x) ((fsT x x.length).getD b 0)) = true := fun h9 => by
            have := (rd_lt h h4 h5).2 h9; omega
          have h9 : ¬ ltN (e3P x.length (cdT x) (kdT x) ((fsT x x.length).getD b 0)) (e3P x.length (cdT x) (kdT x) ((fsT x x.length).getD a 0)) = true := fun h9 => by
            have := (rd_lt h h5 h4).2 h9; omega
          have h10 := (pce_iff h hma.2.1 hmb.2.1).1.2 (ltN_total h8 h9)
          rw [pce_next h (show a + 1 < _ by omega), pce_next h (show b + 1 < _ by omega)] at h10
          have hga := rise_getD (inF_rise (x := x) x.length) (show a < a + 1 by omega) (by omega)
          have hgb := rise_getD (inF_rise (x := x) x.length) (show b < b + 1 by omega) (by omega)
          have hma' := inF_mem.1 (getD_inN (show a + 1 < (fsT x x.length).length by omega))
          have hmb' := inF_mem.1 (getD_inN (show b + 1 < (fsT x x.length).length by omega))
          generalize (fsT x x.length).getD a 0 = p at *
          generalize (fsT x x.length).getD b 0 = q at *
          generalize (fsT x x.length).getD (a + 1) 0 = p' at *
          generalize (fsT x x.length).getD (b + 1) 0 = q' at *
          have h11 := congrArg List.length h10
          rw [List.length_take, List.length_take, List.length_drop, List.length_drop] at h11
          have h12 : p' - p = q' - q := by omega
          have h13 : ∀ t, t < p' - p → x.getD (p + t) 0 = x.getD (q + t) 0 := fun t ht => by
            have h14 := congrArg (fun l : List Int => l.getD t 0) h10
            simp only [List.getD_eq_getElem?_getD, List.getElem?_take, List.getElem?_drop] at h14
            rw [if_pos (by omega), if_pos (by omega)] at h14
            rw [List.getD_eq_getElem?_getD, List.getD_eq_getElem?_getD]
            exact h14
          have h14 := lsT_skip (x := x) (i := p) (j := q) (p' - p) (by omega) (by omega) h13
          rw [show p + (p' - p) = p' by omega, show q + (p' - p) = q' by omega] at h14
          exact h14.1 ih
end Go.Inc
namespace Go.Inc
open Go.RowKit
noncomputable instance (x : List Int) : Decidable x.Nodup := Classical.propDecidable _
/-- The texts of all levels, at most so many more. -/
noncomputable def lvF : Nat → List Int → List (List Int)
  | 0, x => [x]
  | k + 1, x => if x.Nodup ∨ (fsT x x.length).length < 2 then [x] else x :: lvF k (rdT x)
noncomputable def lvT (x : List Int) : List (List Int) := lvF x.length x
theorem lvF_more {x : List Int} (h : InT x) (hx : x.length ≤ 65536) : ∀ k, x.length ≤ k → lvF k x = lvF x.length x := by
  generalize hn : x.length = n
  induction n using Nat.strongRecOn generalizing x with
  | ind n ih =>
    intro k hk
    match n, k with
    | 0, 0 => rfl
    | 0, k + 1 =>
      have hl : (fsT x x.length).length < 2 := by have := fs_half (x := x); omega
      simp only [lvF]
      rw [if_pos (.inr hl)]
    | n + 1, 0 => omega
    | n + 1, k + 1 =>
      simp only [lvF]
      by_cases hc : x.Nodup ∨ (fsT x x.length).length < 2
      · rw [if_pos hc, if_pos hc]
      · rw [if_neg hc, if_neg hc]
        have h2 : 2 ≤ (fsT x x.length).length := by
          rcases Nat.lt_or_ge (fsT x x.length).length 2 with h | h
          · exact absurd (.inr h) hc
          · exact h
        have hr := InT.of (rd_ok h hx h2)
        have hf := fs_half (x := x)
        have hlen := rd_len x
        rw [ih _ (by omega) hr (by omega) rfl k (by omega), ih _ (by omega) hr (by omega) rfl n (by omega)]
theorem lvT_eq {x : List Int} (h : InT x) (hx : x.length ≤ 65536) : lvT x = if x.Nodup ∨ (fsT x x.length).length < 2 then [x] else x :: lvT (rdT x) := by
  have h1 := lvF_more h hx (x.length + 1) (by omega)
  unfold lvT
  rw [← h1]
  simp only [lvF]
  by_cases hc : x.Nodup ∨ (fsT x x.length).length < 2
  · rw [if_pos hc, if_pos hc]
  · rw [if_neg hc, if_neg hc]
    have h2 : 2 ≤ (fsT x x.length).length := by
      rcases Nat.lt_or_ge (fsT x x.length).length 2 with h | h
      · exact absurd (.inr h) hc
      · exact h
    have hr := InT.of (rd_ok h hx h2)
    have hf := fs_half (x := x)
    have hlen := rd_len x
    rw [lvF_more hr (by omega) x.length (by omega)]
/-- How many levels at most. -/
def dpF : Nat → Nat → Nat
  | 0, _ => 0
  | k + 1, n => if n < 1 then 0 else 1 + dpF k (n / 2)
def dpT (n : Nat) : Nat := dpF n n
theorem dpF_more : ∀ n k, n ≤ k → dpF k n = dpF n n := by
  intro n
  induction n using Nat.strongRecOn with
  | ind n ih =>
    intro k hk
    match n, k with
    | 0, 0 => rfl
    | 0, k + 1 => simp [dpF]
    | n + 1, 0 => omega
    | n + 1, k + 1 =>
      simp only [dpF]
      rw [if_neg (by omega), if_neg (by omega), ih ((n + 1) / 2) (by omega) k (by omega), ih ((n + 1) / 2) (by omega) n (by omega)]
theorem dpT_zero : dpT 0 = 0 := rfl
theorem dpT_eq {n : Nat} (h : 0 < n) : dpT n = 1 + dpT (n / 2) := by
  have h1 := dpF_more n (n + 1) (by omega)
  unfold dpT
  rw [← h1]
  simp only [dpF]
  rw [if_neg (by omega), dpF_more (n / 2) n (by omega)]
theorem dpT_mono : ∀ {n m : Nat}, m ≤ n → dpT m ≤ dpT n := by
  intro n
  induction n using Nat.strongRecOn with
  | ind n ih =>
    intro m hm
    by_cases h0 : m = 0
    · subst h0; rw [dpT_zero]; exact Nat.zero_le _
    · rw [dpT_eq (n := m) (by omega), dpT_eq (n := n) (by omega)]
      have := @ih (n / 2) (by omega) (m / 2) (by omega)
      omega
/-- Each level is right and at most half as long as the one ahead. -/
theorem lvT_ok {x : List Int} (h : InT x) (hx : x.length ≤ 65536) (hck : ckT x = 0) (h0 : 0 < x.length) :
    (∀ y ∈ lvT x, ckT y = 0 ∧ y.length ≤ x.length) ∧ (lvT x).length ≤ dpT x.length ∧ (∀ i, i + 1 < (lvT x).length → 2 * ((lvT x).getD (i + 1) []).length ≤ ((lvT x).getD i []).length) ∧ (lvT x).getD 0 [] = x ∧ 0 < (lvT x).length := by
  generalize hn : x.length = n
  induction n using Nat.strongRecOn generalizing x with
  | ind n ih =>
    rw [lvT_eq h hx]
    by_cases hc : x.Nodup ∨ (fsT x x.length).length < 2
    · rw [if_pos hc]
      refine ⟨fun y hy => ?_, ?_, fun i hi => by simp at hi, rfl, by simp⟩
      · rw [List.mem_singleton] at hy; subst hy; exact ⟨hck, by omega⟩
      · rw [dpT_eq (by omega)]; simp
    · rw [if_neg hc]
      have h2 : 2 ≤ (fsT x x.length).length := by
        rcases Nat.lt_or_ge (fsT x x.length).length 2 with h | h
        · exact absurd (.inr h) hc
        · exact h
      have hr := InT.of (rd_ok h hx h2)
      have hf := fs_half (x := x)
      have hlen := rd_len x
      obtain ⟨g1, g2, g3, g4, g5⟩ := ih (rdT x).length (by omega) hr (by omega) (rd_ok h hx h2) (by omega) rfl
      refine ⟨fun y hy => ?_, ?_, fun i hi => ?_, rfl, by simp⟩
      · rcases List.mem_cons.1 hy with e | e
        · subst e; exact ⟨hck, by omega⟩
        · have := g1 y e; exact ⟨this.1, by omega⟩
      · rw [dpT_eq (by omega), List.length_cons]
        have := dpT_mono (n := n / 2) (m := (rdT x).length) (by omega)
        omega
      · match i with
        | 0 =>
          show 2 * ((lvT (rdT x)).getD 0 []).length ≤ x.length
          rw [g4]; omega
        | i + 1 =>
          simp only [List.length_cons] at hi
          exact g3 i (by omega)
end Go.Inc
namespace Go.Inc
open Go Go.RowKit
/-- The row is where it was, or in new memory. -/
def Nw (w : World) (v v' : Value) : Prop := v'.ownBlock = v.ownBlock ∨ ∃ j, v'.ownBlock = some j ∧ w.heap.size ≤ j
theorem Nw.refl (w : World) (v : Value) : Nw w v v := .inl rfl
/-- An append onto an own row; the row is where it was, or in new memory. -/
theorem wpList_append_new {P : Program} (w : World) {ops : Array Oper} {rest : List Oper} {o : Oper} {a : Act} {Q : Exit → Act → World → Prop} (hgd : o.guard = none) (s x : Operand) (t : TypeId)
    (ho : o.op = .call { callee := .builtin .append, args := #[s, x], argTypes := #[t, t] })
    (base : Nat) (e : TypeId) (i : TypeInfo) (z : Value) (size bytes : Nat) (ht : P.underlying t = some (.slice e)) (hi : P.info? e = some i) (hz : i.zero = some z)
    (hsize : i.size = size) (hby : i.bytes = bytes) (hzs : z.cells.size = size) (hsz : 0 < size)
    (v : Value) (n : Nat) (xs : List Value) (hs : a.eval s = v) (hown : w.ownsRow base e size v n xs)
    (ad : Addr) (m c : Nat) (news : List Value) (hx : a.eval x = .slice (some ad) m c) (hl : news.length = m * size) (hnews : ∀ j u, news[j]? = some u → w.cell? (ad.add j) = some u) (h1 : ∀ u ∈ news, u.oneCell' = true)
    (h63 : n + m ≤ maxLen) (hbytes : (n + m) * bytes ≤ 140737488355328) (hbase : base ≤ w.heap.size)
    (h : ∀ v' w', w'.ownsRow base e size v' (n + m) (xs ++ news) → w.grownBy w' v.ownBlock → Nw w v v' → wpList P ops Q rest (a.put o.dst v') w') : wpList P ops Q (o :: rest) a w := by
  refine wpList_plain hgd fun K hK => ?_
  obtain ⟨v', w', hr, h2, h3, -⟩ := run_append_own (P := P) w base t o.type e i z size bytes ht hi hz hsize hby hzs hsz v n xs hown ad m c news hl hnews h1 h63 hbytes hbase
  have hnw : Nw w v v' := by
    have hsmall : n + m ≤ 9223372036854775807 := by simp only [maxLen] at h63; omega
    rcases hown.2 with ⟨rfl, rfl⟩ | ⟨g, cap, cur, rfl, hbg, hg, hnc, hcm, hcs, htake⟩
    · by_cases hm : m = 0
      · subst hm
        have hn : news = [] := List.eq_nil_of_length_eq_zero (by simpa using hl)
        subst hn
        have hr2 : (Builtin.append_ #[t, t] o.type #[.slice none 0 0, .slice (some ad) 0 c]).run P w = .ok (.slice none 0 0) w := by
          simp [Builtin.append_, run_underlying ht, sizeOf, typeInfo, hi, Builtin.lenOf, Builtin.firstCells, loadCells, loadCellsFrom]
        rw [hr2] at hr
        cases hr
        exact .inl rfl
      · have hr2 := run_append_nil (P := P) w t o.type e i z ht hi hz ad m c news (by rw [hsize]; exact hl) hnews (by omega) (by omega) (by rw [hby]; have hb := hbytes; simp only [Nat.zero_add] at hb; omega)
        rw [hr2] at hr
        cases hr
        exact .inr ⟨_, rfl, Nat.le_refl _⟩
    · by_cases hroom : n + m ≤ cap
      · have hr2 := run_append_room (P := P) w t o.type e i ht hi g n cap cur hg ad m c news (by rw [hsize]; exact hl) hnews h1 hroom (by rw [hl, hcs, hsize, ← Nat.add_mul]; exact Nat.mul_le_mul_right _ hroom)
        rw [hr2] at hr
        cases hr
        exact .inl rfl
      · have holds : ∀ j u, xs[j]? = some u → w.cell? ((⟨g, 0, none⟩ : Addr).add j) = some u := hown.cells (g := g) rfl
        have hr2 := run_append_grow (P := P) w t o.type e i z ht hi hz ⟨g, 0, none⟩ n cap xs (by rw [hsize]; exact hown.1) holds ad m c news (by rw [hsize]; exact hl) hnews (by omega) (by omega) (growslice_fits (by omega) (by rw [hby]; exact hbytes))
        rw [hr2] at hr
        cases hr
        exact .inr ⟨_, rfl, Nat.le_refl _⟩
  unfold Oper.wp execOp
  simp only [ho, resolve, invoke, builtin, Sem.run_bind, Sem.run_pure, Result.andThen_ok, List.map_toArray, List.map_cons, List.map_nil, hs, hx, hr]
  exact hK _ _ (h v' w' h2 h3 hnw)
/-- The same, wherever the source lies. -/
theorem wpList_append_nx {P : Program} {w : World} {ops : Array Oper} {rest : List Oper} {o : Oper} {a : Act} {Q : Exit → Act → World → Prop} (hgd : o.guard = none) (s x : Operand) (t : TypeId)
    (ho : o.op = .call { callee := .builtin .append, args := #[s, x], argTypes := #[t, t] })
    (base : Nat) (e : TypeId) (z : Value) (bytes : Nat) (ht : P.underlying t = some (.slice e)) (hi : (P.info? e).map (fun i => (i.zero, i.size, i.bytes)) = some (some z, 1, bytes)) (hzs : z.cells.size = 1)
    (v : Value) (n : Nat) (xs : List Value) (hs : a.eval s = v) (hown : w.ownsRow base e 1 v n xs)
    (ao : Option Addr) (m c : Nat) (news : List Value) (hx : a.eval x = .slice ao m c) (hl : news.length = m) (hnone : ao = none → m = 0) (hnews : ∀ ad, ao = some ad → ∀ j u, news[j]? = some u → w.cell? (ad.add j) = some u) (h1 : ∀ u ∈ news, u.oneCell' = true)
    (h63 : n + m ≤ maxLen) (hbytes : (n + m) * bytes ≤ 140737488355328) (hbase : base ≤ w.heap.size)
    (h : ∀ v' w', w'.ownsRow base e 1 v' (n + m) (xs ++ news) → w.grownBy w' v.ownBlock → Nw w v v' → wpList P ops Q rest (a.put o.dst v') w') : wpList P ops Q (o :: rest) a w := by
  obtain ⟨i, hi, hz0, hz1, hz2⟩ := info_parts hi
  cases ao with
  | some ad => exact wpList_append_new w hgd s x t ho base e i z 1 bytes ht hi hz0 hz1 hz2 hzs (by decide) v n xs hs hown ad m c news hx (by omega) (hnews ad rfl) h1 h63 hbytes hbase h
  | none =>
    obtain rfl := hnone rfl
    obtain rfl : news = [] := List.eq_nil_of_length_eq_zero hl
    refine wpList_plain hgd fun K hK => ?_
    have hrun := run_append_nil_any (P := P) t o.type i ht hi v n c xs hown
    unfold Oper.wp
    simp [execOp, ho, resolve, invoke, builtin, hs, hx, hrun, Result.andThen]
    exact hK _ _ (h v w (by simpa using hown) (grown_refl _ _) (Nw.refl _ _))
theorem rows_apart {w : World} {B B' E E' s s' n n' : Nat} {v v' : Value} {xs ys : List Value} (h : w.ownsRow B E s v n xs) (k : w.ownsRow B' E' s' v' n' ys) (hne : E ≠ E') : v.ownBlock = none ∨ v.ownBlock ≠ v'.ownBlock := by
  rcases h.2 with ⟨rfl, _⟩ | ⟨g, cap, cur, rfl, _, hg, _⟩
  · exact .inl rfl
  · refine .inr fun e => ?_
    rcases k.2 with ⟨rfl, _⟩ | ⟨g', cap', cur', rfl, _, hg', _⟩
    · cases e
    · have : g = g' := by simpa [Value.ownBlock] using e
      subst this
      rw [hg] at hg'
      simp at hg'
      exact hne hg'.2
/-- Two rows of which one grew: they stay apart. -/
theorem Nw.apart {w : World} {B E s n : Nat} {u v v' : Value} {xs : List Value} (h : Nw w v v') (hu : w.ownsRow B E s u n xs) (hd : u.ownBlock = none ∨ u.ownBlock ≠ v.ownBlock) : u.ownBlock = none ∨ u.ownBlock ≠ v'.ownBlock := by
  rcases h with h | ⟨j, h1, h2⟩
  · rw [h]; exact hd
  · cases hl : u.ownBlock with
    | none => exact .inl rfl
    | some g =>
      refine .inr fun e => ?_
      rw [h1] at e
      cases e
      have := (hu.lt _ hl).2
      omega
theorem apart_symm {u v : Value} (h : u.ownBlock = none ∨ u.ownBlock ≠ v.ownBlock) : v.ownBlock = none ∨ v.ownBlock ≠ u.ownBlock := by
  rcases h with h | h
  · cases hv : v.ownBlock with
    | none => exact .inl rfl
    | some g => exact .inr (by rw [h]; simp)
  · exact .inr fun e => h e.symm
end Go.Inc
namespace Go.Inc
open Go.RowKit
theorem count_take {zs : List Int} {k : Nat} (h : k < zs.length) (s : Int) : (zs.take (k + 1)).count s = (zs.take k).count s + (if zs.getD k 0 = s then 1 else 0) := by
  rw [List.take_succ_eq_append_getElem h, List.count_append, List.getD_eq_getElem?_getD, List.getElem?_eq_getElem h]
  simp only [Option.getD_some]
  by_cases h1 : zs[k] = s
  · rw [if_pos h1, h1]; simp
  · rw [if_neg h1, List.count_singleton, if_neg (by simpa using h1)]
/-- The symbols below n that are in a text; how often each is. -/
def symT (zs : List Int) : Nat → List Nat
  | 0 => []
  | n + 1 => if 0 < zs.count (n : Int) then symT zs n ++ [n] else symT zs n
def cntT (zs : List Int) (n : Nat) : List Nat := (symT zs n).map fun s : Nat => zs.count (s : Int)
theorem symT_in {zs : List Int} {n : Nat} (h : 0 < zs.count (n : Int)) : symT zs (n + 1) = symT zs n ++ [n] := by
  show (if _ then _ else _) = _
  rw [if_pos h]
theorem symT_out {zs : List Int} {n : Nat} (h : ¬ 0 < zs.count (n : Int)) : symT zs (n + 1) = symT zs n := by
  show (if _ then _ else _) = _
  rw [if_neg h]
theorem cntT_in {zs : List Int} {n : Nat} (h : 0 < zs.count (n : Int)) : cntT zs (n + 1) = cntT zs n ++ [zs.count (n : Int)] := by
  unfold cntT
  rw [symT_in h, List.map_append]; rfl
theorem cntT_out {zs : List Int} {n : Nat} (h : ¬ 0 < zs.count (n : Int)) : cntT zs (n + 1) = cntT zs n := by
  unfold cntT
  rw [symT_out h]
theorem symT_len (zs : List Int) : ∀ n, (symT zs n).length ≤ n
  | 0 => Nat.le_refl _
  | n + 1 => by
    have := symT_len zs n
    by_cases h : 0 < zs.count (n : Int)
    · rw [symT_in h, List.length_append]; simp; omega
    · rw [symT_out h]; omega
theorem cntT_len (zs : List Int) (n : Nat) : (cntT zs n).length = (symT zs n).length := by simp [cntT]
/-- The text of documents, but for its end. -/
def txtD : List (List Nat) → List Nat
  | [] => []
  | d :: ds => d.map (· + 2) ++ 1 :: txtD ds
theorem txtD_append (a b : List (List Nat)) : txtD (a ++ b) = txtD a ++ txtD b := by
  induction a with
  | nil => rfl
  | cons d a ih => show d.map (· + 2) ++ 1 :: txtD (a ++ b) = _; rw [ih]; simp [txtD]
theorem txtD_take {ds : List (List Nat)} {t : Nat} (h : t < ds.length) : txtD (ds.take (t + 1)) = txtD (ds.take t) ++ ((ds.getD t []).map (· + 2) ++ [1]) := by
  rw [List.take_succ_eq_append_getElem h, txtD_append, List.getD_eq_getElem?_getD, List.getElem?_eq_getElem h]
  rfl
theorem txtD_le (ds : List (List Nat)) (t : Nat) : (txtD (ds.take t)).length ≤ (txtD ds).length := by
  have h := txtD_append (ds.take t) (ds.drop t)
  rw [List.take_append_drop] at h
  rw [h, List.length_append]
  omega
theorem map_take_snoc {d : List Nat} {k : Nat} (h : k < d.length) : (d.take (k + 1)).map (· + 2) = (d.take k).map (· + 2) ++ [d.getD k 0 + 2] := by
  rw [List.take_succ_eq_append_getElem h, List.map_append, List.getD_eq_getElem?_getD, List.getElem?_eq_getElem h]
  rfl
end Go.Inc
