/- CONTRACTS: how many bits below the lowest one (math/bits.TrailingZeros64), over its table. CONTRACTS: the document's sets: Bytes; lists that are the same; words that are the same. -/
import Derived.Test.YtmllpednaibeeaaU6
import Derived.Shelf.Spec.TrailingZeros
import Derived.Test.YtmllpednaibeeaaU1
namespace Go.Proofs.Ytmllpednaibeeaa
open Go.RowKit Go.Inc

/-- The table lies in its variable. -/
def Tab (w : World) : Prop := TabAt 0 Lib.deBruijn64tab w
theorem Tab.mv {F : Nat → Prop} {w w' : World} (h : Tab w) (hm : Mv F w w') (hf : ¬ F 0) : Tab w' := fun j hj => hm.cell (h j hj) hf
theorem Tab.below {w w' : World} (h : Tab w) (hb : Below w.heap.size w w') : Tab w' := h.mv (F := fun _ => False) (Mv.of_below hb) id
end Go.Proofs.Ytmllpednaibeeaa
namespace Go.Proofs.Ytmllpednaibeeaa
open Go.RowKit Go.Inc

theorem takeI_snoc {bs : List Int} {k : Nat} (h : k < bs.length) : bs.take (k + 1) = bs.take k ++ [bs.getD k 0] := by
  rw [List.take_succ_eq_append_getElem h, List.getD_eq_getElem?_getD, List.getElem?_eq_getElem h]; rfl
theorem refSame_len (a b : Option Addr) (n m c d : Nat) (w : World) (h : n ≠ m) :
    Calls Try.prog 14 #[.slice a n c, .slice b m d] w fun e w' => e = .returned (.bool false) ∧ w = w' := by
  have hne : ((n : Int) != m) = true := by rw [bne_iff_ne]; omega
  have hne2 : ((n : Int) == m) = false := by rw [beq_eq_false_iff_ne]; omega
  clear h
  go_enter Try.func14, Try.ntmps14
  go_wp2
  go_ret
  exact ⟨rfl, rfl⟩
theorem refSame_nil (a b : Option Addr) (c d : Nat) (w : World) :
    Calls Try.prog 14 #[.slice a 0 c, .slice b 0 d] w fun e w' => e = .returned (.bool true) ∧ w = w' := by
  go_enter Try.func14, Try.ntmps14
  go_wp2
  go_loop [5] (fun i => i = .int .i64 0) (fun _ => 0)
  case atStart => rfl
  case round =>
    subst hrel
    go_wp2
    go_ret
    exact ⟨rfl, rfl⟩
set_option maxHeartbeats 1000000 in
theorem refSame_some (ab ao bb bo n c d : Nat) (xs ys : List Int) (w : World) (ha : xs.length = n) (hb : ys.length = n) (hm : (n : Int) ≤ 9223372036854775807)
    (hac : ∀ i, i < n → w.cell? ⟨ab, ao + i, none⟩ = some (.int .i64 (xs.getD i 0))) (hbc : ∀ i, i < n → w.cell? ⟨bb, bo + i, none⟩ = some (.int .i64 (ys.getD i 0))) :
    Calls Try.prog 14 #[.slice (some ⟨ab, ao, none⟩) n c, .slice (some ⟨bb, bo, none⟩) n d] w fun e w' => e = .returned (.bool (decide (xs = ys))) ∧ Below w.heap.size w w' := by
  have HA := hid ha
  have HB := hid hb
  have HAC := hid hac
  have HBC := hid hbc
  clear ha hb hac hbc
  go_enter Try.func14, Try.ntmps14
  go_wp2
  go_loopw [5] (fun i wr => ∃ k : Nat, k ≤ n ∧ i = .int .i64 k ∧ xs.take k = ys.take k ∧ Below w.heap.size w wr) (fun i _ => n - (intOf i).toNat)
  case atStart => exact ⟨0, Nat.zero_le _, rfl, rfl, Below.refl _ _⟩
  case round =>
    obtain ⟨k, hk, rfl, heq, hbel⟩ := hrel
    have HEQ := hid heq
    clear heq
    by_cases hlt : (k : Int) < n
    · have ca := HAC.out k (by omega)
      have cb := HBC.out k (by omega)
      rw [← hbel.cell (cell_lt ca)] at ca
      rw [← hbel.cell (cell_lt cb)] at cb
      have hsa := hid (takeI_snoc (bs := xs) (k := k) (by rw [HA.out]; omega))
      have hsb := hid (takeI_snoc (bs := ys) (k := k) (by rw [HB.out]; omega))
      generalize xs.getD k 0 = x at *
      generalize ys.getD k 0 = y at *
      by_cases hxy : x = y
      · have hne : (x != y) = false := by rw [bne_eq_false_iff_eq]; exact hxy
        have HXY := hid hxy
        clear hxy
        go_wp2_with fail
        go_quiet (fail)
        have hbq : Below w.heap.size w (wr.drewN nq) := ⟨hbel.os, hbel.tape, hbel.output, hbel.size, hbel.block⟩
        go_wp2_with fail
        go_roundw
        case rel => exact ⟨k + 1, by omega, by go_num, by rw [hsa.out, hsb.out, HEQ.out, HXY.out], hbq⟩
        case measure => simp [intOf]; omega
      · have hne : (x != y) = true := by rw [bne_iff_ne]; exact hxy
        have HXY := hid hxy
        clear hxy
        have hdec : Hid (decide (xs = ys) = false) := hid (by
          rw [decide_eq_false_iff_not]
          rintro rfl
          have h := hsa.out.symm.trans hsb.out
          simp at h
          exact HXY.out (by rw [h]))
        go_wp2_with fail
        go_quiet (fail)
        have hbq : Below w.heap.size w (wr.drewN nq) := ⟨hbel.os, hbel.tape, hbel.output, hbel.size, hbel.block⟩
        go_wp2_with fail
        go_ret
        exact ⟨by rw [hdec.out]; rfl, hbq⟩
    · have hdec : Hid (decide (xs = ys) = true) := hid (by
        rw [decide_eq_true_iff]
        have h := HEQ.out
        rwa [List.take_of_length_le (by rw [HA.out]; omega), List.take_of_length_le (by rw [HB.out]; omega)] at h)
      have hge : (n : Int) ≤ k := by omega
      clear hlt
      go_wp2_with fail
      go_ret
      exact ⟨by rw [hdec.out]; rfl, hbel⟩
/-- The same lists? -/
theorem refSame_any (ok ok' : Nat → Prop) (a b : Option Addr) (c d : Nat) (xs ys : List Int) (w : World) (ha : Si ok w a xs) (hb : Si ok' w b ys) (hm : (xs.length : Int) ≤ 9223372036854775807) :
    Calls Try.prog 14 #[.slice a xs.length c, .slice b ys.length d] w fun e w' => e = .returned (.bool (decide (xs = ys))) ∧ Below w.heap.size w w' := by
  by_cases hl : xs.length = ys.length
  · rcases ha with rfl | ⟨ab, ao, rfl, _, hac⟩
    · have : ys = [] := List.eq_nil_of_length_eq_zero (by simpa using hl.symm)
      subst this
      refine (refSame_nil a b c d w).mono ?_
      rintro e w' ⟨rfl, rfl⟩
      exact ⟨rfl, Below.refl _ _⟩
    · rcases hb with rfl | ⟨bb, bo, rfl, _, hbc⟩
      · have : xs = [] := List.eq_nil_of_length_eq_zero (by simpa using hl)
        subst this
        refine (refSame_nil _ b c d w).mono ?_
        rintro e w' ⟨rfl, rfl⟩
        exact ⟨rfl, Below.refl _ _⟩
      · have h := refSame_some ab ao bb bo xs.length c d xs ys w rfl hl.symm hm hac (fun i hi => hbc i (by omega))
        rw [← hl]; exact h
  · refine (refSame_len a b xs.length ys.length c d w (by omega)).mono ?_
    rintro e w' ⟨rfl, rfl⟩
    refine ⟨ret_bool ?_, Below.refl _ _⟩
    symm
    rw [decide_eq_false_iff_not]
    rintro rfl
    exact hl rfl
end Go.Proofs.Ytmllpednaibeeaa
