/- CONTRACTS: small ones of the sets of bits; a set in memory. -/
import Derived.Test.YtlfpepkgnobjnaaRows
import Derived.Test.YtlfpepkgnobjnaaBmBits
import Derived.Test.YtlfpepkgnobjnaaBmLib
import Derived.Test.YtlfpepkgnobjnaaDevLib
import Derived.Test.YtlfpepkgnobjnaaGrow
import Derived.Lib.MinMax
import Derived.Laws.Bits128
import Derived.Deep.QuietTactic
import Derived.BigQuiet
namespace Go.Proofs.Ytlfpepkgnobjnaa
open Go.RowKit Go.Inc

theorem wrap_nat {x : Nat} (h : x < 18446744073709551616) : IntKind.u64.wrap (x : Int) = (x : Int) := by rw [IntKind.wrap_u64]; omega
theorem bit_any (i : Nat) (w : World) (h : (i : Int) < 4096) :
    Calls Try.prog 57 #[.int .i64 (i : Int)] w fun e w' => e = .returned (.int .u64 ((2 ^ (i % 64) : Nat) : Int)) ∧ w = w' := by
  have hw : IntKind.u64.wrap (2 ^ (i % 64)) = ((2 ^ (i % 64) : Nat) : Int) := by
    have := wrap_nat (pow_lt64 i)
    rw [← this]; congr 1
  go_enter Try.func57, Try.ntmps57
  go_wp2_with fail
  go_ret
  exact ⟨by rw [← hw]; rfl, rfl⟩
theorem parts64_any (n : Nat) (w : World) (h : (n : Int) < 4096) :
    Calls Try.prog 48 #[.int .i64 (n : Int), .int .i64 64] w fun e w' => e = .returned (.int .i64 (((n + 63) / 64 : Nat) : Int)) ∧ w = w' := by
  go_enter Try.func48, Try.ntmps48
  go_wp2_with fail
  go_ret
  exact ⟨ret_int (by omega), rfl⟩
def wvals (W : List Nat) : List Value := W.map fun x : Nat => Value.int .u64 (x : Int)
theorem wvals_set (W : List Nat) (q x : Nat) : (wvals W).set q (.int .u64 (x : Int)) = wvals (W.set q x) := by simp [wvals, List.map_set]
theorem wvals_get {W : List Nat} {q : Nat} (h : q < W.length) : (wvals W)[q]? = some (.int .u64 ((W.getD q 0 : Nat) : Int)) := by
  rw [List.getD_eq_getElem?_getD, List.getElem?_eq_getElem h]
  simp [wvals, h]
/-- A set lies there: its size and its words. -/
structure BmAt (w : World) (b g c size : Nat) (W : List Nat) : Prop where
  hsz : w.cell? ⟨b, 0, none⟩ = some (.int .i64 (size : Int))
  hw : w.cell? ⟨b, 1, none⟩ = some (.slice (some ⟨g, 0, none⟩) W.length c)
  row : w.ownsRow g 82 1 (.slice (some ⟨g, 0, none⟩) W.length c) W.length (wvals W)
  ne : b ≠ g
  s1 : 1 ≤ size
  s2 : size ≤ 2048
  len : W.length = (size + 63) / 64
  fits : ∀ x ∈ W, x < 18446744073709551616
section
variable {w w' : World} {b g c size : Nat} {W : List Nat}
theorem BmAt.blt (h : BmAt w b g c size W) : b < w.heap.size := cell_lt h.hsz
theorem BmAt.wlen (h : BmAt w b g c size W) : 0 < W.length ∧ W.length ≤ 32 := by have := h.len; have := h.s1; have := h.s2; omega
theorem BmAt.cell (h : BmAt w b g c size W) {q : Nat} (hq : q < W.length) : w.cell? ⟨g, q, none⟩ = some (.int .u64 ((W.getD q 0 : Nat) : Int)) := by
  have hc := h.row.cells (g := g) rfl q _ (wvals_get hq)
  rw [Addr.add_lit] at hc
  simpa only [Nat.zero_add] using hc
theorem BmAt.glt (h : BmAt w b g c size W) : g < w.heap.size := cell_lt (h.cell h.wlen.1)
theorem BmAt.mv {F : Nat → Prop} (h : BmAt w b g c size W) (hm : Mv F w w') (hb : ¬ F b) (hg : ¬ F g) : BmAt w' b g c size W :=
  ⟨hm.cell h.hsz hb, hm.cell h.hw hb, owns_mv h.row hm (fun i hi hf => by
    have : g = i := by simpa [Value.ownBlock] using hi
    subst this; exact hg hf), h.ne, h.s1, h.s2, h.len, h.fits⟩
theorem BmAt.below (h : BmAt w b g c size W) (hb : Below w.heap.size w w') : BmAt w' b g c size W := h.mv (F := fun _ => False) (Mv.of_below hb) id id
/-- A word is written. -/
theorem BmAt.put (h : BmAt w b g c size W) (q : Nat) {y : Nat} (hy : y < 18446744073709551616) : BmAt (w.setCell ⟨g, q, none⟩ (.int .u64 (y : Int))) b g c size (W.set q y) := by
  have hst := (h.row.stored q (.int .u64 (y : Int)))
  refine ⟨?_, ?_, ?_, h.ne, h.s1, h.s2, by rw [List.length_set]; exact h.len, wset_lt h.fits hy⟩
  · rw [← h.hsz]; exact World.cell?_of_block (Below.heap_setCell _ _ _ _ h.ne)
  · rw [List.length_set, ← h.hw]; exact World.cell?_of_block (Below.heap_setCell _ _ _ _ h.ne)
  · rw [List.length_set, ← wvals_set]; exact hst.1
end
/-- A set of these numbers: none, or one that lies in blocks that are 'ok'. -/
def Bm (ok : Nat → Prop) (w : World) (v : Value) (m : List Bool) : Prop :=
  (v = .pointer none ∧ m = []) ∨ ∃ b g c W, v = .pointer (some ⟨b, 0, none⟩) ∧ ok b ∧ ok g ∧ BmAt w b g c m.length W ∧ ∀ i, wbit W i = inB m i
section
variable {ok ok' : Nat → Prop} {w w' : World} {v : Value} {m : List Bool}
theorem Bm.mv {F : Nat → Prop} (h : Bm ok w v m) (hm : Mv F w w') (hk : ∀ i, ok i → ¬ F i) : Bm ok w' v m := by
  rcases h with h | ⟨b, g, c, W, h1, h2, h3, h4, h5⟩
  · exact .inl h
  · exact .inr ⟨b, g, c, W, h1, h2, h3, h4.mv hm (hk b h2) (hk g h3), h5⟩
theorem Bm.below (h : Bm ok w v m) (hb : Below w.heap.size w w') : Bm ok w' v m := h.mv (F := fun _ => False) (Mv.of_below hb) fun _ _ => id
theorem Bm.mono (h : Bm ok w v m) (hk : ∀ b, ok b → b < w.heap.size → ok' b) : Bm ok' w v m := by
  rcases h with h | ⟨b, g, c, W, h1, h2, h3, h4, h5⟩
  · exact .inl h
  · exact .inr ⟨b, g, c, W, h1, hk b h2 h4.blt, hk g h3 h4.glt, h4, h5⟩
theorem Bm.len (h : Bm ok w v m) : m.length ≤ 2048 := by
  rcases h with ⟨_, rfl⟩ | ⟨b, g, c, W, _, _, _, h4, _⟩
  · exact Nat.zero_le _
  · exact h4.s2
end

theorem size_any (ok : Nat → Prop) (v : Value) (m : List Bool) (w : World) (h : Bm ok w v m) :
    Calls Try.prog 59 #[v] w fun e w' => e = .returned (.int .i64 (m.length : Int)) ∧ w = w' := by
  rcases h with ⟨rfl, rfl⟩ | ⟨b, g, c, W, rfl, _, _, h, _⟩
  · go_enter Try.func59, Try.ntmps59
    go_wp2_with fail
    go_ret
    exact ⟨rfl, rfl⟩
  · have hc := h.hsz
    clear h
    go_enter Try.func59, Try.ntmps59
    go_wp2_with fail
    go_ret
    exact ⟨rfl, rfl⟩
theorem mayHave_any (ok : Nat → Prop) (v : Value) (m : List Bool) (no : Int) (w : World) (h : Bm ok w v m) :
    Calls Try.prog 55 #[v, .int .i64 no] w fun e w' => e = .returned (.bool (decide (0 ≤ no) && decide (no < m.length))) ∧ w = w' := by
  have H := hid h
  obtain ⟨n, hn⟩ : ∃ n, n = m.length := ⟨_, rfl⟩
  have HC : Hid (Calls Try.prog 59 #[v] w fun e w' => e = .returned (.int .i64 (n : Int)) ∧ w = w') := hid (by rw [hn]; exact size_any ok v m w h)
  rw [← hn]
  clear hn h
  by_cases h0 : 0 ≤ no
  · go_enter Try.func55, Try.ntmps55
    go_wp2_with fail
    refine HC.out.mono ?_
    rintro e w1 ⟨rfl, rfl⟩
    go_wp2_with fail
    go_ret
    exact ⟨by simp [h0], rfl⟩
  · have h0' : (0 ≤ no) = False := eq_false h0
    go_enter Try.func55, Try.ntmps55
    go_wp2_with fail
    go_ret
    exact ⟨by simp, rfl⟩
end Go.Proofs.Ytlfpepkgnobjnaa

