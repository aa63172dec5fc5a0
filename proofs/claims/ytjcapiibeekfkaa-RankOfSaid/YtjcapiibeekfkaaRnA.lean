/- CONTRACTS: a row in memory; small ones: is there such a bit, is it one, is one behind the last, one laid, a row of zeros. -/
import Derived.Test.YtjcapiibeekfkaaRkMd
import Derived.Test.YtjcapiibeekfkaaRkMe
import Derived.Test.YtjcapiibeekfkaaBmD
import Derived.Test.YtjcapiibeekfkaaNx
import Derived.Test.YtjcapiibeekfkaaGrowX
import Derived.Lib.MinMax
import Derived.Deep.QuietTactic
import Derived.BigQuiet
import Derived.BigRegion
import Derived.StillTailTactics
namespace Go.Inc
open Go.RowKit
/-- A block of another type is not the row's. -/
theorem own_ne {w : World} {B E s n b : Nat} {v : Value} {xs : List Value} {cs : Array Value} {T : TypeId} {fz : Nat × Nat} (h : w.ownsRow B E s v n xs) (hb : w.heap[b]? = some (.cells cs T fz)) (hne : E ≠ T) : v.ownBlock ≠ some b := by
  rcases h.2 with ⟨rfl, _⟩ | ⟨g, cap, cur, rfl, _, hg, _⟩
  · intro e; cases e
  · intro e
    have : g = b := by simpa [Value.ownBlock] using e
    subst this
    rw [hb] at hg
    simp at hg
    exact hne hg.2.1.symm
theorem own_lt {w : World} {B E s n : Nat} {v : Value} {xs : List Value} (h : w.ownsRow B E s v n xs) : ∀ g, v.ownBlock = some g → g < w.heap.size := fun g hg => by
  rcases h.2 with ⟨rfl, h1⟩ | ⟨g', cap, cur, rfl, h1, h2, _⟩
  · cases hg
  · have : g' = g := by simpa [Value.ownBlock] using hg
    subst this; exact row_lt h2
theorem own_slice {w : World} {B E n : Nat} {v : Value} {xs : List Value} (h : w.ownsRow B E 1 v n xs) : ∃ a c, v = .slice a n c := by
  rcases h.2 with ⟨rfl, h1⟩ | ⟨g, cap, cur, rfl, h1, _, h2, h3, _⟩
  · exact ⟨none, 0, by rw [h1]⟩
  · exact ⟨_, _, rfl⟩
theorem own_here {w : World} {B E n : Nat} {v : Value} {xs : List Value} (h : w.ownsRow B E 1 v n xs) (h0 : 0 < n) : ∃ g c, v = .slice (some ⟨g, 0, none⟩) n c ∧ n ≤ c ∧ c ≤ maxLen := by
  rcases h.2 with ⟨rfl, h1⟩ | ⟨g, cap, cur, rfl, h1, _, h2, h3, _⟩
  · omega
  · exact ⟨g, cap, rfl, h2, h3⟩
end Go.Inc
namespace Go.Proofs.Ytjcapiibeekfkaa
open Go.RowKit Go.Inc

/-- A row lies there: how many bits, its words, the once's state, its directory. -/
structure RwR (x : World) (b n : Nat) (v : Value) (W : List Nat) (d k : Nat) (vb vw : Value) (D E : List Nat) (all : Nat) : Prop where
  box : x.heap[b]? = some (.cells #[.int .i64 (n : Int), v, .int .u32 (d : Int), .int .i32 (k : Int), .int .u32 0, vb, vw, .int .i64 (all : Int)] 77 (0, 0))
  row : x.ownsRow 0 47 1 v W.length (wvals W)
  blk : x.ownsRow 0 3 1 vb D.length (nvals D)
  wrd : x.ownsRow 0 3 1 vw E.length (nvals E)
  ap : vb.ownBlock = none ∨ vb.ownBlock ≠ vw.ownBlock
def RwS (b : Nat) (v vb vw : Value) (i : Nat) : Prop := i = b ∨ v.ownBlock = some i ∨ vb.ownBlock = some i ∨ vw.ownBlock = some i
section
variable {x x' : World} {b n d k all : Nat} {v vb vw : Value} {W D E : List Nat}
theorem RwR.c0 (h : RwR x b n v W d k vb vw D E all) : x.cell? ⟨b, 0, none⟩ = some (.int .i64 (n : Int)) := by rw [cell_of_row _ _ _ _ _ _ h.box]; rfl
theorem RwR.c1 (h : RwR x b n v W d k vb vw D E all) : x.cell? ⟨b, 1, none⟩ = some v := by rw [cell_of_row _ _ _ _ _ _ h.box]; rfl
theorem RwR.c2 (h : RwR x b n v W d k vb vw D E all) : x.cell? ⟨b, 2, none⟩ = some (.int .u32 (d : Int)) := by rw [cell_of_row _ _ _ _ _ _ h.box]; rfl
theorem RwR.c3 (h : RwR x b n v W d k vb vw D E all) : x.cell? ⟨b, 3, none⟩ = some (.int .i32 (k : Int)) := by rw [cell_of_row _ _ _ _ _ _ h.box]; rfl
theorem RwR.c5 (h : RwR x b n v W d k vb vw D E all) : x.cell? ⟨b, 5, none⟩ = some vb := by rw [cell_of_row _ _ _ _ _ _ h.box]; rfl
theorem RwR.c6 (h : RwR x b n v W d k vb vw D E all) : x.cell? ⟨b, 6, none⟩ = some vw := by rw [cell_of_row _ _ _ _ _ _ h.box]; rfl
theorem RwR.c7 (h : RwR x b n v W d k vb vw D E all) : x.cell? ⟨b, 7, none⟩ = some (.int .i64 (all : Int)) := by rw [cell_of_row _ _ _ _ _ _ h.box]; rfl
theorem RwR.fz (h : RwR x b n v W d k vb vw D E all) (j : Nat) : x.frozen? ⟨b, j, none⟩ = false := frozen_of_row _ _ _ _ _ h.box
theorem RwR.mv {F : Nat → Prop} (h : RwR x b n v W d k vb vw D E all) (hm : Mv F x x') (hF : ∀ i, RwS b v vb vw i → ¬ F i) : RwR x' b n v W d k vb vw D E all :=
  ⟨hm.row h.box (hF b (.inl rfl)), owns_mv h.row hm fun i hi => hF i (.inr (.inl hi)), owns_mv h.blk hm fun i hi => hF i (.inr (.inr (.inl hi))), owns_mv h.wrd hm fun i hi => hF i (.inr (.inr (.inr hi))), h.ap⟩
theorem RwR.below (h : RwR x b n v W d k vb vw D E all) (hb : Below x.heap.size x x') : RwR x' b n v W d k vb vw D E all := h.mv (F := fun _ => False) (Mv.of_below hb) fun _ _ => id
theorem RwR.lt (h : RwR x b n v W d k vb vw D E all) : ∀ i, RwS b v vb vw i → i < x.heap.size := fun i hi => by
  rcases hi with rfl | hi | hi | hi
  · exact row_lt h.box
  · exact own_lt h.row i hi
  · exact own_lt h.blk i hi
  · exact own_lt h.wrd i hi
theorem RwR.nv (h : RwR x b n v W d k vb vw D E all) : v.ownBlock ≠ some b := own_ne h.row h.box (by decide)
theorem RwR.nb (h : RwR x b n v W d k vb vw D E all) : vb.ownBlock ≠ some b := own_ne h.blk h.box (by decide)
theorem RwR.nw (h : RwR x b n v W d k vb vw D E all) : vw.ownBlock ≠ some b := own_ne h.wrd h.box (by decide)
/-- A cell of the box is laid. -/
theorem RwR.box' (h : RwR x b n v W d k vb vw D E all) (j : Nat) (u : Value) : (x.setCell ⟨b, j, none⟩ u).heap[b]? = some (.cells (#[.int .i64 (n : Int), v, .int .u32 (d : Int), .int .i32 (k : Int), .int .u32 0, vb, vw, .int .i64 (all : Int)].setIfInBounds j u) 77 (0, 0)) := heap_setCell_same x b j _ _ _ h.box
theorem RwR.row' (h : RwR x b n v W d k vb vw D E all) (j : Nat) (u : Value) : (x.setCell ⟨b, j, none⟩ u).ownsRow 0 47 1 v W.length (wvals W) := ownsRow_setCell_other h.row h.nv _
theorem RwR.blk' (h : RwR x b n v W d k vb vw D E all) (j : Nat) (u : Value) : (x.setCell ⟨b, j, none⟩ u).ownsRow 0 3 1 vb D.length (nvals D) := ownsRow_setCell_other h.blk h.nb _
theorem RwR.wrd' (h : RwR x b n v W d k vb vw D E all) (j : Nat) (u : Value) : (x.setCell ⟨b, j, none⟩ u).ownsRow 0 3 1 vw E.length (nvals E) := ownsRow_setCell_other h.wrd h.nw _
/-- The words. -/
theorem RwR.here (h : RwR x b n v W d k vb vw D E all) (h0 : 0 < W.length) : ∃ g c, v = .slice (some ⟨g, 0, none⟩) W.length c ∧ W.length ≤ c ∧ c ≤ maxLen := own_here h.row h0
end
theorem RwR.word {x : World} {b n d k all g m c q : Nat} {vb vw : Value} {W D E : List Nat} (h : RwR x b n (.slice (some ⟨g, 0, none⟩) m c) W d k vb vw D E all) (hq : q < W.length) : x.cell? ⟨g, q, none⟩ = some (.int .u64 ((W.getD q 0 : Nat) : Int)) := by
  have hc := h.row.cells (g := g) rfl q _ (wvals_get hq)
  rw [Addr.add_lit] at hc
  simpa only [Nat.zero_add] using hc
theorem RwR.wfz {x : World} {b n d k all g m c : Nat} {vb vw : Value} {W D E : List Nat} (h : RwR x b n (.slice (some ⟨g, 0, none⟩) m c) W d k vb vw D E all) (hm : m = W.length) (q : Nat) : x.frozen? ⟨g, q, none⟩ = false := by
  subst hm; exact h.row.frozenAt q
theorem RwR.put {x : World} {b n d k all g m c : Nat} {vb vw : Value} {W D E : List Nat} (h : RwR x b n (.slice (some ⟨g, 0, none⟩) m c) W d k vb vw D E all) (hm : m = W.length) (q y : Nat) :
    RwR (x.setCell ⟨g, q, none⟩ (.int .u64 (y : Int))) b n (.slice (some ⟨g, 0, none⟩) m c) (W.set q y) d k vb vw D E all := by
  subst hm
  have hst := (h.row.stored q (.int .u64 (y : Int)))
  have hne : b ≠ g := fun e => h.nv (by rw [e]; rfl)
  have hap : ∀ {u : Value} {L : List Nat}, x.ownsRow 0 3 1 u L.length (nvals L) → u.ownBlock ≠ some g := fun hu e => by
    rcases owns_apart hu h.row (by decide) with h1 | h1
    · rw [h1] at e; cases e
    · exact h1 (by rw [e]; rfl)
  refine ⟨?_, ?_, ownsRow_setCell_other h.blk (hap h.blk) _, ownsRow_setCell_other h.wrd (hap h.wrd) _, h.ap⟩
  · rw [Below.heap_setCell _ _ _ _ hne]; exact h.box
  · rw [List.length_set, ← wvals_set]; exact hst.1

theorem rParts64_any (n : Nat) (w : World) (h : (n : Int) ≤ 2031616) :
    Calls Try.prog 38 #[.int .i64 (n : Int), .int .i64 64] w fun e w' => e = .returned (.int .i64 (((n + 63) / 64 : Nat) : Int)) ∧ w = w' := by
  go_enter Try.func38, Try.ntmps38
  go_wp2_with fail
  go_ret
  exact ⟨ret_int (by omega), rfl⟩
theorem rParts8_any (n : Nat) (w : World) (h : (n : Int) ≤ 2031616) :
    Calls Try.prog 38 #[.int .i64 (n : Int), .int .i64 8] w fun e w' => e = .returned (.int .i64 (((n + 7) / 8 : Nat) : Int)) ∧ w = w' := by
  go_enter Try.func38, Try.ntmps38
  go_wp2_with fail
  go_ret
  exact ⟨ret_int (by omega), rfl⟩
def hasZ (n : Nat) (i : Int) : Bool := decide (0 ≤ i ∧ i < (n : Int))
theorem rHas_any (x : World) (b : Nat) (n : Nat) (i : Int) (h1 : x.cell? ⟨b, 0, none⟩ = some (.int .i64 (n : Int))) :
    Calls Try.prog 31 #[.pointer (some ⟨b, 0, none⟩), .int .i64 i] x fun e w' => e = .returned (.bool (hasZ n i)) ∧ x = w' := by
  by_cases h0 : 0 ≤ i
  · have HB : Hid (hasZ n i = decide (i < (n : Int))) := hid (by unfold hasZ; simp [h0])
    go_enter Try.func31, Try.ntmps31
    go_wp2_with fail
    go_ret
    exact ⟨ret_bool (by rw [HB.out]), rfl⟩
  · have HB : Hid (hasZ n i = false) := hid (by unfold hasZ; simp [h0])
    have h0' : (0 ≤ i) = False := eq_false h0
    clear h0
    go_enter Try.func31, Try.ntmps31
    go_wp2_with fail
    go_ret
    exact ⟨ret_bool (by rw [HB.out]), rfl⟩
theorem hasZ_nat {n i : Nat} : hasZ n (i : Int) = decide (i < n) := by unfold hasZ; rw [Bool.eq_iff_iff, decide_eq_true_iff, decide_eq_true_iff]; omega
theorem u64_and1 (y : Nat) (h : y < 18446744073709551616) : bits .and .u64 (y : Int) 1 = ((y % 2 : Nat) : Int) := by
  have := u64_and_nat y 1 h (by decide)
  rw [show ((1 : Nat) : Int) = 1 from rfl] at this
  rw [this, show y &&& 1 = y % 2 from Nat.and_two_pow_sub_one_eq_mod y 1]
theorem shr_lt64 {x o : Nat} (h : x < 18446744073709551616) : x / 2 ^ o < 18446744073709551616 := Nat.lt_of_le_of_lt (Nat.div_le_self _ _) h
theorem rIsOne_any (x : World) (b n i d k all : Nat) (v vb vw : Value) (W D E : List Nat) (m : List Bool) (h : RwR x b n v W d k vb vw D E all) (hw : WdR W m) (hi : i < m.length) (hm : m.length ≤ 65536) :
    Calls Try.prog 32 #[.pointer (some ⟨b, 0, none⟩), .int .i64 (i : Int)] x fun e w' => e = .returned (.bool (inB m i)) ∧ x = w' := by
  have hl := hw.len
  obtain ⟨g, c, rfl, hc1, hc2⟩ := h.here (by omega)
  obtain ⟨q, hq⟩ : ∃ q, q = i / 64 := ⟨_, rfl⟩
  obtain ⟨o, ho⟩ : ∃ o, o = i % 64 := ⟨_, rfl⟩
  have hql : q < W.length := by omega
  have k1 := h.c1
  have k2 := h.word hql
  have hlt := hw.get_lt q
  have HBIT : Hid (inB m i = (W.getD q 0).testBit o) := hid (by rw [hq, ho]; exact (hw.bit i).symm)
  obtain ⟨z, hz⟩ : ∃ z, z = W.getD q 0 := ⟨_, rfl⟩
  rw [← hz] at k2 hlt HBIT
  obtain ⟨y, hy⟩ : ∃ y, y = z / 2 ^ o := ⟨_, rfl⟩
  have hyl : y < 18446744073709551616 := by rw [hy]; exact shr_lt64 hlt
  obtain ⟨r, hr⟩ : ∃ r, r = y % 2 := ⟨_, rfl⟩
  have f1 : (z : Int) / 2 ^ o = (y : Int) := by rw [hy]; simp
  have f2 : bits .and .u64 (y : Int) 1 = (r : Int) := by rw [u64_and1 y hyl, hr]
  have HR : Hid (inB m i = decide (r = 1)) := hid (by rw [HBIT.out, hr, hy, Nat.testBit_eq_decide_div_mod_eq])
  obtain ⟨nw, hnw⟩ : ∃ nw, nw = W.length := ⟨_, rfl⟩
  rw [← hnw] at k1 hc1 hql
  have hqi : (i : Int) / 64 = (q : Int) := by omega
  have hqt : Int.tdiv (i : Int) 64 = (q : Int) := by rw [Int.tdiv_eq_ediv_of_nonneg (by omega)]; exact hqi
  have hoi : (i : Int) % 64 = (o : Int) := by omega
  have hot : Int.tmod (i : Int) 64 = (o : Int) := by rw [Int.tmod_eq_emod_of_nonneg (by omega)]; exact hoi
  have hob : (o : Int) < 64 := by omega
  have hqn : (q : Int) < (nw : Int) := by omega
  have hqb : (nw : Int) ≤ 1024 := by omega
  have hr2 : r = 0 ∨ r = 1 := by omega
  clear h hw hi hm hl hc1 hc2 hq ho hql hlt hz hy hyl hr hnw HBIT
  rcases hr2 with rfl | rfl
  · go_enter Try.func32, Try.ntmps32
    go_wp2_with fail
    go_ret
    exact ⟨ret_bool (by rw [HR.out]; rfl), rfl⟩
  · go_enter Try.func32, Try.ntmps32
    go_wp2_with fail
    go_ret
    exact ⟨ret_bool (by rw [HR.out]; rfl), rfl⟩
end Go.Proofs.Ytjcapiibeekfkaa
