/- CONTRACTS: small ones of the sets of bits; a set in memory. CONTRACTS: is a number in it? -/
import Derived.Test.YtmllpednaibeeaaRows
import Derived.Test.YtmllpednaibeeaaU1
import Derived.Test.YtmllpednaibeeaaU0
import Derived.Test.YtmllpednaibeeaaU2
import Derived.Test.YtmllpednaibeeaaU3
import Derived.Lib.MinMax
import Derived.Laws.Bits128
import Derived.Deep.QuietTactic
import Derived.BigQuiet
namespace Go.Proofs.Ytmllpednaibeeaa
open Go.RowKit Go.Inc

def wvals (W : List Nat) : List Value := W.map fun x : Nat => Value.int .u64 (x : Int)
theorem wvals_set (W : List Nat) (q x : Nat) : (wvals W).set q (.int .u64 (x : Int)) = wvals (W.set q x) := by simp [wvals, List.map_set]
theorem wvals_get {W : List Nat} {q : Nat} (h : q < W.length) : (wvals W)[q]? = some (.int .u64 ((W.getD q 0 : Nat) : Int)) := by
  rw [List.getD_eq_getElem?_getD, List.getElem?_eq_getElem h]
  simp [wvals, h]
/-- A set lies there: its size and its words. -/
structure BmAt (w : World) (b g c size : Nat) (W : List Nat) : Prop where
  hsz : w.cell? ⟨b, 0, none⟩ = some (.int .i64 (size : Int))
  hw : w.cell? ⟨b, 1, none⟩ = some (.slice (some ⟨g, 0, none⟩) W.length c)
  row : w.ownsRow g 33 1 (.slice (some ⟨g, 0, none⟩) W.length c) W.length (wvals W)
  ne : b ≠ g
  s1 : 1 ≤ size
  s2 : size ≤ 2048
  len : W.length = (size + 63) / 64
  fits : ∀ x ∈ W, x < 18446744073709551616
section
variable {w w' : World} {b g c size : Nat} {W : List Nat}
theorem BmAt.blt (h : BmAt w b g c size W) : b < w.heap.size := cell_lt h.hsz
theorem BmAt.wlen (h : BmAt w b g c size W) : 0 < W.length ∧ W.length ≤ 32 := by have := h.len; have := h.s1; have := h.s2; omega
theorem BmAt.cell (h : BmAt w b g c size W) {q : Nat} (hq : q < W.length) : w.cell? ⟨g, q, none⟩ = some (.int .u64 ((W.getD q 0 : Nat) : Int)) := by
  have hc := h.row.cells (g := g) rfl q _ (wvals_get hq)
  rw [Addr.add_lit] at hc
  simpa only [Nat.zero_add] using hc
theorem BmAt.glt (h : BmAt w b g c size W) : g < w.heap.size := cell_lt (h.cell h.wlen.1)
theorem BmAt.mv {F : Nat → Prop} (h : BmAt w b g c size W) (hm : Mv F w w') (hb : ¬ F b) (hg : ¬ F g) : BmAt w' b g c size W :=
  ⟨hm.cell h.hsz hb, hm.cell h.hw hb, owns_mv h.row hm (fun i hi hf => by
    have : g = i := by simpa [Value.ownBlock] using hi
    subst this; exact hg hf), h.ne, h.s1, h.s2, h.len, h.fits⟩
theorem BmAt.below (h : BmAt w b g c size W) (hb : Below w.heap.size w w') : BmAt w' b g c size W := h.mv (F := fun _ => False) (Mv.of_below hb) id id
/-- A word is written. -/
theorem BmAt.put (h : BmAt w b g c size W) (q : Nat) {y : Nat} (hy : y < 18446744073709551616) : BmAt (w.setCell ⟨g, q, none⟩ (.int .u64 (y : Int))) b g c size (W.set q y) := by
  have hst := (h.row.stored q (.int .u64 (y : Int)))
  refine ⟨?_, ?_, ?_, h.ne, h.s1, h.s2, by rw [List.length_set]; exact h.len, wset_lt h.fits hy⟩
  · rw [← h.hsz]; exact World.cell?_of_block (Below.heap_setCell _ _ _ _ h.ne)
  · rw [List.length_set, ← h.hw]; exact World.cell?_of_block (Below.heap_setCell _ _ _ _ h.ne)
  · rw [List.length_set, ← wvals_set]; exact hst.1
end
/-- A set of these numbers: none, or one that lies in blocks that are 'ok'. -/
def Bm (ok : Nat → Prop) (w : World) (v : Value) (m : List Bool) : Prop :=
  (v = .pointer none ∧ m = []) ∨ ∃ b g c W, v = .pointer (some ⟨b, 0, none⟩) ∧ ok b ∧ ok g ∧ BmAt w b g c m.length W ∧ ∀ i, wbit W i = inB m i
section
variable {ok ok' : Nat → Prop} {w w' : World} {v : Value} {m : List Bool}
theorem Bm.mv {F : Nat → Prop} (h : Bm ok w v m) (hm : Mv F w w') (hk : ∀ i, ok i → ¬ F i) : Bm ok w' v m := by
  rcases h with h | ⟨b, g, c, W, h1, h2, h3, h4, h5⟩
  · exact .inl h
  · exact .inr ⟨b, g, c, W, h1, h2, h3, h4.mv hm (hk b h2) (hk g h3), h5⟩
theorem Bm.below (h : Bm ok w v m) (hb : Below w.heap.size w w') : Bm ok w' v m := h.mv (F := fun _ => False) (Mv.of_below hb) fun _ _ => id
theorem Bm.mono (h : Bm ok w v m) (hk : ∀ b, ok b → b < w.heap.size → ok' b) : Bm ok' w v m := by
  rcases h with h | ⟨b, g, c, W, h1, h2, h3, h4, h5⟩
  · exact .inl h
  · exact .inr ⟨b, g, c, W, h1, hk b h2 h4.blt, hk g h3 h4.glt, h4, h5⟩
theorem Bm.len (h : Bm ok w v m) : m.length ≤ 2048 := by
  rcases h with ⟨_, rfl⟩ | ⟨b, g, c, W, _, _, _, h4, _⟩
  · exact Nat.zero_le _
  · exact h4.s2
end

end Go.Proofs.Ytmllpednaibeeaa
namespace Go.Proofs.Ytmllpednaibeeaa
open Go.RowKit Go.Inc

theorem below_drewN (w : World) (n : Nat) : Below w.heap.size w (w.drewN n) := ⟨rfl, rfl, rfl, Nat.le_refl _, fun _ _ => rfl⟩
end Go.Proofs.Ytmllpednaibeeaa
