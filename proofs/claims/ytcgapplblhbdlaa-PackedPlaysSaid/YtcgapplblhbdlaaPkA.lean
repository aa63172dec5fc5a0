/- CONTRACTS: small ones of the arrays of numbers of few bits; an array in memory; a number read. -/
import Derived.Test.YtcgapplblhbdlaaRows
import Derived.Test.YtcgapplblhbdlaaPkMath
import Derived.Test.YtcgapplblhbdlaaBmD
import Derived.Test.YtcgapplblhbdlaaVarSize
import Derived.Lib.MinMax
import Derived.Deep.QuietTactic
import Derived.BigQuiet
namespace Go.Proofs.Ytcgapplblhbdlaa
open Go.RowKit Go.Inc

/-- An array lies there: its width, how many, its words. -/
structure PkR (x : World) (b : Nat) (v : Value) (w n : Nat) (W : List Nat) (B : Nat) : Prop where
  box : x.heap[b]? = some (.cells #[.int .i64 (w : Int), .int .i64 (n : Int), v] 56 (0, 0))
  row : x.ownsRow B 35 1 v W.length (wvals W)
  ne : v.ownBlock ≠ some b
section
variable {x x' : World} {b w n B : Nat} {v : Value} {W : List Nat}
theorem PkR.c0 (h : PkR x b v w n W B) : x.cell? ⟨b, 0, none⟩ = some (.int .i64 (w : Int)) := by rw [cell_of_row _ _ _ _ _ _ h.box]; rfl
theorem PkR.c1 (h : PkR x b v w n W B) : x.cell? ⟨b, 1, none⟩ = some (.int .i64 (n : Int)) := by rw [cell_of_row _ _ _ _ _ _ h.box]; rfl
theorem PkR.c2 (h : PkR x b v w n W B) : x.cell? ⟨b, 2, none⟩ = some v := by rw [cell_of_row _ _ _ _ _ _ h.box]; rfl
theorem PkR.mv {F : Nat → Prop} (h : PkR x b v w n W B) (hm : Mv F x x') (hb : ¬ F b) (hg : ∀ g, v.ownBlock = some g → ¬ F g) : PkR x' b v w n W B :=
  ⟨hm.row h.box hb, owns_mv h.row hm hg, h.ne⟩
theorem PkR.below (h : PkR x b v w n W B) (hb : Below x.heap.size x x') : PkR x' b v w n W B := h.mv (F := fun _ => False) (Mv.of_below hb) id fun _ _ => id
theorem PkR.weaken {B' : Nat} (h : PkR x b v w n W B) (hb : B' ≤ B) : PkR x b v w n W B' := ⟨h.box, own_weaken h.row hb, h.ne⟩
/-- The words' row. -/
theorem PkR.here (h : PkR x b v w n W B) (h0 : 0 < W.length) : ∃ g c, v = .slice (some ⟨g, 0, none⟩) W.length c ∧ W.length ≤ c ∧ c ≤ maxLen ∧ B ≤ g ∧ g ≠ b := by
  have hc := h.row
  rcases hc.2 with ⟨rfl, h1⟩ | ⟨g, cap, cur, rfl, h1, _, h2, h3, _⟩
  · omega
  · exact ⟨g, cap, rfl, h2, h3, h1, fun e => h.ne (by rw [← e]; rfl)⟩
theorem PkR.slice (h : PkR x b v w n W B) : ∃ a c, v = .slice a W.length c := by
  rcases h.row.2 with ⟨rfl, h1⟩ | ⟨g, cap, cur, rfl, h1, _, h2, h3, _⟩
  · exact ⟨none, 0, by rw [h1]⟩
  · exact ⟨_, _, rfl⟩
theorem PkR.blt (h : PkR x b v w n W B) : b < x.heap.size := row_lt h.box
theorem PkR.glt (h : PkR x b v w n W B) : ∀ g, v.ownBlock = some g → g < x.heap.size := fun g hg => by
  rcases h.row.2 with ⟨rfl, h1⟩ | ⟨g', cap, cur, rfl, h1, h2, _⟩
  · cases hg
  · have : g' = g := by simpa [Value.ownBlock] using hg
    subst this; exact row_lt h2
end
theorem PkR.word {x : World} {b w n B g c q : Nat} {W : List Nat} (h : PkR x b (.slice (some ⟨g, 0, none⟩) W.length c) w n W B) (hq : q < W.length) : x.cell? ⟨g, q, none⟩ = some (.int .u64 ((W.getD q 0 : Nat) : Int)) := by
  have hc := h.row.cells (g := g) rfl q _ (wvals_get hq)
  rw [Addr.add_lit] at hc
  simpa only [Nat.zero_add] using hc
theorem PkR.put {x : World} {b w n B g c : Nat} {W : List Nat} (h : PkR x b (.slice (some ⟨g, 0, none⟩) W.length c) w n W B) (q y : Nat) : PkR (x.setCell ⟨g, q, none⟩ (.int .u64 (y : Int))) b (.slice (some ⟨g, 0, none⟩) W.length c) w n (W.set q y) B := by
  have hst := (h.row.stored q (.int .u64 (y : Int)))
  have hne : b ≠ g := fun e => h.ne (by rw [e]; rfl)
  refine ⟨?_, ?_, h.ne⟩
  · rw [Below.heap_setCell _ _ _ _ hne]; exact h.box
  · rw [List.length_set, ← wvals_set]; exact hst.1

theorem PkR.word' {x : World} {b w n B g c q m : Nat} {W : List Nat} (h : PkR x b (.slice (some ⟨g, 0, none⟩) m c) w n W B) (hm : m = W.length) (hq : q < W.length) : x.cell? ⟨g, q, none⟩ = some (.int .u64 ((W.getD q 0 : Nat) : Int)) := by
  subst hm; exact h.word hq
theorem PkR.put' {x : World} {b w n B g c m : Nat} {W : List Nat} (h : PkR x b (.slice (some ⟨g, 0, none⟩) m c) w n W B) (hm : m = W.length) (q y : Nat) : PkR (x.setCell ⟨g, q, none⟩ (.int .u64 (y : Int))) b (.slice (some ⟨g, 0, none⟩) m c) w n (W.set q y) B := by
  subst hm; exact h.put q y

/-- An array of these numbers. -/
structure PkAt (x : World) (b : Nat) (v : Value) (w : Nat) (l W : List Nat) (B : Nat) : Prop where
  raw : PkR x b v w l.length W B
  w1 : 1 ≤ w
  w2 : w ≤ 31
  n : l.length ≤ 65536
  fit : FitsP w l
  wd : Wd w l W
section
variable {x x' : World} {b w B : Nat} {v : Value} {l W : List Nat}
theorem PkAt.mv {F : Nat → Prop} (h : PkAt x b v w l W B) (hm : Mv F x x') (hb : ¬ F b) (hg : ∀ g, v.ownBlock = some g → ¬ F g) : PkAt x' b v w l W B := ⟨h.raw.mv hm hb hg, h.w1, h.w2, h.n, h.fit, h.wd⟩
theorem PkAt.below (h : PkAt x b v w l W B) (hb : Below x.heap.size x x') : PkAt x' b v w l W B := ⟨h.raw.below hb, h.w1, h.w2, h.n, h.fit, h.wd⟩
theorem PkAt.weaken {B' : Nat} (h : PkAt x b v w l W B) (hb : B' ≤ B) : PkAt x b v w l W B' := ⟨h.raw.weaken hb, h.w1, h.w2, h.n, h.fit, h.wd⟩
theorem mul_31 {w i : Nat} (hw : w ≤ 31) (hi : i ≤ 65536) : i * w ≤ 2031616 := Nat.mul_le_mul hi hw
theorem PkAt.wlen (h : PkAt x b v w l W B) : W.length ≤ 31745 := by
  have := h.wd.len
  have h2 := mul_31 h.w2 h.n
  rw [Nat.mul_comm] at h2
  omega
end

def isW (z : Int) : Bool := decide (1 ≤ z ∧ z ≤ 31)
theorem pkIsWidth_any (z : Int) (w : World) : Calls Try.prog 26 #[.int .i64 z] w fun e w' => e = .returned (.bool (isW z)) ∧ w = w' := by
  by_cases h1 : 1 ≤ z
  · by_cases h2 : z ≤ 31
    · have hb : Hid (isW z = true) := hid (by unfold isW; simp [h1, h2])
      go_enter Try.func26, Try.ntmps26
      go_wp2_with fail
      go_ret
      exact ⟨ret_bool (by rw [hb.out]), rfl⟩
    · have hb : Hid (isW z = false) := hid (by unfold isW; simp [h2])
      have h2' : 31 < z := by omega
      go_enter Try.func26, Try.ntmps26
      go_wp2_with fail
      go_ret
      exact ⟨ret_bool (by rw [hb.out]), rfl⟩
  · have hb : Hid (isW z = false) := hid (by unfold isW; simp [h1])
    have h1' : z < 1 := by omega
    have h1'' : (1 ≤ z) = False := eq_false h1
    clear h1
    go_enter Try.func26, Try.ntmps26
    go_wp2_with fail
    go_ret
    exact ⟨ret_bool (by rw [hb.out]), rfl⟩
theorem pkParts64_any (n : Nat) (w : World) (h : (n : Int) ≤ 2031616) :
    Calls Try.prog 42 #[.int .i64 (n : Int), .int .i64 64] w fun e w' => e = .returned (.int .i64 (((n + 63) / 64 : Nat) : Int)) ∧ w = w' := by
  go_enter Try.func42, Try.ntmps42
  go_wp2_with fail
  go_ret
  exact ⟨ret_int (by omega), rfl⟩
theorem pkParts8_any (n : Nat) (w : World) (h : (n : Int) ≤ 2031616) :
    Calls Try.prog 42 #[.int .i64 (n : Int), .int .i64 8] w fun e w' => e = .returned (.int .i64 (((n + 7) / 8 : Nat) : Int)) ∧ w = w' := by
  go_enter Try.func42, Try.ntmps42
  go_wp2_with fail
  go_ret
  exact ⟨ret_int (by omega), rfl⟩
/-- How many bytes the bits are. -/
theorem pkSize_bad (z n : Int) (w : World) (h : ¬ (isW z = true ∧ 0 ≤ n ∧ n ≤ 65536)) : Calls Try.prog 25 #[.int .i64 z, .int .i64 n] w fun e w' => e = .returned (.int .i64 0) ∧ w = w' := by
  have H := hid (pkIsWidth_any z w)
  by_cases hz : isW z = true
  · rw [hz] at H
    by_cases h1 : n < 0
    · clear h hz
      go_enter Try.func25, Try.ntmps25
      go_wp2_with fail
      refine H.out.mono ?_
      rintro e w1 ⟨rfl, rfl⟩
      go_wp2_with fail
      go_ret
      exact ⟨rfl, rfl⟩
    · have h2 : 65536 < n := by rw [hz] at h; simp at h; omega
      have h1' : (n < 0) = False := eq_false h1
      clear h hz h1
      go_enter Try.func25, Try.ntmps25
      go_wp2_with fail
      refine H.out.mono ?_
      rintro e w1 ⟨rfl, rfl⟩
      go_wp2_with fail
      go_ret
      exact ⟨rfl, rfl⟩
  · have hz' : isW z = false := by simpa using hz
    rw [hz'] at H
    clear h hz hz'
    go_enter Try.func25, Try.ntmps25
    go_wp2_with fail
    refine H.out.mono ?_
    rintro e w1 ⟨rfl, rfl⟩
    go_wp2_with fail
    go_ret
    exact ⟨rfl, rfl⟩
theorem isW_nat {w : Nat} (h1 : 1 ≤ w) (h2 : w ≤ 31) : isW (w : Int) = true := by unfold isW; rw [decide_eq_true_iff]; omega
theorem pkSize_any (z n : Nat) (w : World) (h1 : 1 ≤ z) (h2 : z ≤ 31) (h3 : n ≤ 65536) : Calls Try.prog 25 #[.int .i64 (z : Int), .int .i64 (n : Int)] w fun e w' => e = .returned (.int .i64 (((z * n + 7) / 8 : Nat) : Int)) ∧ w = w' := by
  have H := hid (pkIsWidth_any z w)
  rw [isW_nat h1 h2] at H
  obtain ⟨P, hP⟩ : ∃ P, P = z * n := ⟨_, rfl⟩
  have hPi : (z : Int) * (n : Int) = (P : Int) := by rw [hP]; simp
  have hPb : (P : Int) ≤ 2031616 := by have := mul_31 h2 h3; rw [Nat.mul_comm, ← hP] at this; omega
  have HQ := hid (pkParts8_any P w hPb)
  rw [← hP]
  have hn1 : ((n : Int) < 0) = False := eq_false (by omega)
  have hn2 : (n : Int) ≤ 65536 := by omega
  clear h1 h2 h3 hP
  go_enter Try.func25, Try.ntmps25
  go_wp2_with fail
  refine H.out.mono ?_
  rintro e w1 ⟨rfl, rfl⟩
  go_wp2_with fail
  refine HQ.out.mono ?_
  rintro e w1 ⟨rfl, rfl⟩
  go_wp2_with fail
  go_ret
  exact ⟨rfl, rfl⟩
/-- How many bits a number has; 0, if no array can have it. -/
def widthZ (z : Int) : Nat := if z < 0 ∨ 2147483647 < z then 0 else max 1 (Lib.bitLen z.toNat)
def fitsZ (w : Nat) (z : Int) : Bool := decide (0 ≤ z ∧ z < ((2 ^ w : Nat) : Int))
theorem widthZ_le (z : Int) : widthZ z ≤ 31 := by
  unfold widthZ
  split
  · omega
  · rename_i h
    have hs := bitLen_spec z.toNat (by omega)
    by_cases h0 : z.toNat = 0
    · rw [h0]; decide
    · have h1 := (hs.2 h0).1
      have h2 : ¬ 32 ≤ Lib.bitLen z.toNat := fun h3 => by
        have : (2 : Nat) ^ 31 ≤ 2 ^ (Lib.bitLen z.toNat - 1) := Nat.pow_le_pow_right (by decide) (by omega)
        omega
      omega
theorem widthZ_fits {w : Nat} (h1 : 1 ≤ w) (h2 : w ≤ 31) (z : Int) : (0 < widthZ z ∧ widthZ z ≤ w) ↔ fitsZ w z = true := by
  have hp := pow31 h2
  unfold fitsZ
  rw [decide_eq_true_iff]
  unfold widthZ
  split
  · rename_i h
    constructor
    · rintro ⟨h3, _⟩; omega
    · rintro ⟨h3, h4⟩; omega
  · rename_i h
    have hs := bitLen_spec z.toNat (by omega)
    have hz : z = (z.toNat : Int) := by omega
    constructor
    · rintro ⟨_, h4⟩
      refine ⟨by omega, ?_⟩
      have h5 : z.toNat < 2 ^ w := Nat.lt_of_lt_of_le hs.1 (Nat.pow_le_pow_right (by decide) (by omega))
      omega
    · rintro ⟨h3, h4⟩
      have h5 : z.toNat < 2 ^ w := by omega
      refine ⟨by omega, ?_⟩
      by_cases h0 : z.toNat = 0
      · rw [h0, show Lib.bitLen 0 = 0 from by decide]; omega
      · have h6 := (hs.2 h0).1
        have h7 : ¬ w < Lib.bitLen z.toNat := fun h8 => by
          have : (2 : Nat) ^ w ≤ 2 ^ (Lib.bitLen z.toNat - 1) := Nat.pow_le_pow_right (by decide) (by omega)
          omega
        omega
theorem pkWidth_any (z : Int) (w : World) : Calls Try.prog 17 #[.int .i64 z] w fun e w' => e = .returned (.int .i64 (widthZ z : Int)) ∧ w = w' := by
  by_cases h1 : z < 0
  · have HW : Hid (widthZ z = 0) := hid (by unfold widthZ; rw [if_pos (.inl h1)])
    go_enter Try.func17, Try.ntmps17
    go_wp2_with fail
    go_ret
    exact ⟨ret_int (by rw [HW.out]; rfl), rfl⟩
  · by_cases h2 : 2147483648 ≤ z
    · have HW : Hid (widthZ z = 0) := hid (by unfold widthZ; rw [if_pos (.inr (by omega))])
      have h1' : (z < 0) = False := eq_false h1
      clear h1
      go_enter Try.func17, Try.ntmps17
      go_wp2_with fail
      go_ret
      exact ⟨ret_int (by rw [HW.out]; rfl), rfl⟩
    · have HW : Hid (((widthZ z : Nat) : Int) = max 1 ((Lib.bitLen z.toNat : Nat) : Int)) := hid (by unfold widthZ; rw [if_neg (by omega)]; omega)
      have h1' : (z < 0) = False := eq_false h1
      have h2' : z < 2147483648 := by omega
      have hw : IntKind.u64.wrap z = z := by rw [IntKind.wrap_u64]; omega
      have HL := hid (len_any z w (by omega) (by omega))
      obtain ⟨k, hk⟩ : ∃ k, k = Lib.bitLen z.toNat := ⟨_, rfl⟩
      rw [← hk] at HL HW
      clear h1 h2 hk
      go_enter Try.func17, Try.ntmps17
      go_wp2_with fail
      refine HL.out.mono ?_
      rintro e w1 ⟨rfl, rfl⟩
      go_wp2_with fail
      go_ret
      exact ⟨ret_int (by rw [HW.out]), rfl⟩
end Go.Proofs.Ytcgapplblhbdlaa
