/- CONTRACTS: small ones of the sets of bits; a set in memory. -/
import Derived.Test.YtclpoconppmapaaRows
import Derived.Test.YtclpoconppmapaaBmBits
import Derived.Test.YtclpoconppmapaaBmLib
import Derived.Test.YtclpoconppmapaaDevLib
import Derived.Test.YtclpoconppmapaaGrow
import Derived.Lib.MinMax
import Derived.Laws.Bits128
import Derived.Deep.QuietTactic
import Derived.BigQuiet
namespace Go.Proofs.Ytclpoconppmapaa
open Go.RowKit Go.Inc

theorem wrap_nat {x : Nat} (h : x < 18446744073709551616) : IntKind.u64.wrap (x : Int) = (x : Int) := by rw [IntKind.wrap_u64]; omega
def wvals (W : List Nat) : List Value := W.map fun x : Nat => Value.int .u64 (x : Int)
theorem wvals_len (W : List Nat) : (wvals W).length = W.length := by simp [wvals]
theorem wvals_set (W : List Nat) (q x : Nat) : (wvals W).set q (.int .u64 (x : Int)) = wvals (W.set q x) := by simp [wvals, List.map_set]
theorem wvals_get {W : List Nat} {q : Nat} (h : q < W.length) : (wvals W)[q]? = some (.int .u64 ((W.getD q 0 : Nat) : Int)) := by
  rw [List.getD_eq_getElem?_getD, List.getElem?_eq_getElem h]
  simp [wvals, h]
theorem wvals_one (W : List Nat) : ∀ u ∈ wvals W, u.oneCell' = true := by
  intro u hu
  obtain ⟨_, _, rfl⟩ := List.mem_map.1 hu
  rfl
/-- A set lies there: its size and its words. -/
structure BmAt (w : World) (b g c size : Nat) (W : List Nat) : Prop where
  hsz : w.cell? ⟨b, 0, none⟩ = some (.int .i64 (size : Int))
  hw : w.cell? ⟨b, 1, none⟩ = some (.slice (some ⟨g, 0, none⟩) W.length c)
  row : w.ownsRow g 43 1 (.slice (some ⟨g, 0, none⟩) W.length c) W.length (wvals W)
  ne : b ≠ g
  s1 : 1 ≤ size
  s2 : size ≤ 2048
  len : W.length = (size + 63) / 64
  fits : ∀ x ∈ W, x < 18446744073709551616
section
variable {w w' : World} {b g c size : Nat} {W : List Nat}
theorem BmAt.blt (h : BmAt w b g c size W) : b < w.heap.size := cell_lt h.hsz
theorem BmAt.wlen (h : BmAt w b g c size W) : 0 < W.length ∧ W.length ≤ 32 := by have := h.len; have := h.s1; have := h.s2; omega
theorem BmAt.cell (h : BmAt w b g c size W) {q : Nat} (hq : q < W.length) : w.cell? ⟨g, q, none⟩ = some (.int .u64 ((W.getD q 0 : Nat) : Int)) := by
  have hc := h.row.cells (g := g) rfl q _ (wvals_get hq)
  rw [Addr.add_lit] at hc
  simpa only [Nat.zero_add] using hc
theorem BmAt.glt (h : BmAt w b g c size W) : g < w.heap.size := cell_lt (h.cell h.wlen.1)
end
/-- A set of these numbers: none, or one that lies in blocks that are 'ok'. -/
def Bm (ok : Nat → Prop) (w : World) (v : Value) (m : List Bool) : Prop :=
  (v = .pointer none ∧ m = []) ∨ ∃ b g c W, v = .pointer (some ⟨b, 0, none⟩) ∧ ok b ∧ ok g ∧ BmAt w b g c m.length W ∧ ∀ i, wbit W i = inB m i
section
variable {ok ok' : Nat → Prop} {w w' : World} {v : Value} {m : List Bool}
theorem Bm.mono (h : Bm ok w v m) (hk : ∀ b, ok b → b < w.heap.size → ok' b) : Bm ok' w v m := by
  rcases h with h | ⟨b, g, c, W, h1, h2, h3, h4, h5⟩
  · exact .inl h
  · exact .inr ⟨b, g, c, W, h1, hk b h2 h4.blt, hk g h3 h4.glt, h4, h5⟩
end

end Go.Proofs.Ytclpoconppmapaa

