/- CONTRACTS: do the last four bytes hold the sum of all ahead of them? In whatever order Go reads and calls. -/
import Derived.Test.YtmdimhijbmeioaaCrcD
import Derived.Deep.RegionHeld3
namespace Go.Proofs.Ytmdimhijbmeioaa
open Go.RowKit Go.Inc

theorem holds_short (a : Option Addr) (n c : Nat) (w : World) (h : (n : Int) < 4) :
    Calls Try.prog 30 #[.slice a n c] w fun e w' => e = .returned (.bool false) ∧ w = w' := by
  have h0 : (n : Int) - 4 < 0 := by omega
  go_enter Try.func30, Try.ntmps30
  go_wp2_with fail
  go_ret
  exact ⟨rfl, rfl⟩

/-- What the region reads. -/
def Four (w w' : World) (b o : Nat) (x0 x1 x2 x3 : Nat) : Prop :=
  Below w.heap.size w w' ∧ w'.cell? ⟨b, o, none⟩ = some (.int .u8 (x0 : Int)) ∧ w'.cell? ⟨b, o + 1, none⟩ = some (.int .u8 (x1 : Int)) ∧ w'.cell? ⟨b, o + 2, none⟩ = some (.int .u8 (x2 : Int)) ∧ w'.cell? ⟨b, o + 3, none⟩ = some (.int .u8 (x3 : Int))
theorem Four.of {w w' : World} {b o x0 x1 x2 x3 : Nat} (h : Four w w b o x0 x1 x2 x3) (hB : Below w.heap.size w w') : Four w w' b o x0 x1 x2 x3 :=
  ⟨hB, (hB.cell (cell_lt h.2.1)).trans h.2.1, (hB.cell (cell_lt h.2.2.1)).trans h.2.2.1, (hB.cell (cell_lt h.2.2.2.1)).trans h.2.2.2.1, (hB.cell (cell_lt h.2.2.2.2)).trans h.2.2.2.2⟩
theorem pt_pre {w wx : World} {b o : Nat} {pre : List Nat} (hp : Sl (fun b => b < w.heap.size) w (some ⟨b, o, none⟩) pre) (hb : Bytes pre) (hB : Below w.heap.size w wx) (c : Nat) (hc : pre.length ≤ c ∧ c ≤ maxLen) (T : TypeId) (k : Nat) (hk : pre.length = k) :
    Pt (fun b => b < w.heap.size ∨ b = wx.heap.size) (wx.alloc (.cells #[.slice (some ⟨b, o, none⟩) k c] T)) (some ⟨wx.heap.size, 0, none⟩) [pre] := by
  subst hk
  exact Pt.one (hp.below hB) hb c hc T
theorem arr4 (w : World) (a : Addr) (c : Nat) : (Instr.arrayAt 64 (.slice (some a) 4 c)).run Try.prog w = .ok (.pointer (some a)) w := by
  simp [Instr.arrayAt, go_sem]
theorem eq4 (w : World) (x0 x1 x2 x3 y0 y1 y2 y3 : Int) :
    (Op.equalIn 10000 64 (.agg #[.int .u8 x0, .int .u8 x1, .int .u8 x2, .int .u8 x3]) (.agg #[.int .u8 y0, .int .u8 y1, .int .u8 y2, .int .u8 y3])).run Try.prog w =
      .ok (x0 == y0 && (x1 == y1 && (x2 == y2 && x3 == y3))) w := by
  have hi : ∃ i, Try.prog.info? 5 = some i ∧ i.size = 1 := by obtain ⟨i, h1, _, h2, _⟩ := info_parts infoU8; exact ⟨i, h1, h2⟩
  obtain ⟨i, hi, hs⟩ := hi
  have hp : ∀ (cs : Array Value) (n : Nat) (v : Value) (w : World), cs[n]? = some v → (part 5 cs n).run Try.prog w = .ok v w := by
    intro cs n v w h
    simp [part, isAgg, Sem.run_bind, run_underlying Try.underlying5, h]
  unfold Op.equalIn
  simp only [Sem.run_bind, run_underlying Try.underlying64, Result.andThen_ok]
  simp [sizeOf, typeInfo, hi, hs, List.range', hp, run_equalIn_int _ _ _ _ _ _ _ Try.underlying5]
  by_cases h0 : x0 = y0 <;> by_cases h1 : x1 = y1 <;> by_cases h2 : x2 = y2 <;> by_cases h3 : x3 = y3 <;> simp [h0, h1, h2, h3]

theorem eq_low (w : World) (x0 x1 x2 x3 s : Nat) :
    (Op.equalIn 10000 64 (.agg #[.int .u8 x0, .int .u8 x1, .int .u8 x2, .int .u8 x3]) (.agg (u8s (low s)).toArray)).run Try.prog w = .ok (decide ([x0, x1, x2, x3] = low s)) w := by
  refine (eq4 w x0 x1 x2 x3 _ _ _ _).trans ?_
  congr 1
  rw [Bool.eq_iff_iff]
  simp only [low, List.cons.injEq, and_true, Bool.and_eq_true, beq_iff_eq, decide_eq_true_eq]
  omega
set_option maxRecDepth 20000 in
set_option maxHeartbeats 2000000 in
theorem holds_long (b o k c : Nat) (pre : List Nat) (x0 x1 x2 x3 : Nat) (w : World) (hk : pre.length = k) (hb : Bytes pre)
    (hpre : Sl (fun b => b < w.heap.size) w (some ⟨b, o, none⟩) pre) (hf : Four w w b (o + k) x0 x1 x2 x3) (hc : ((k + 4 : Nat) : Int) ≤ c) (hm : (c : Int) ≤ 9223372036854775807) :
    Calls Try.prog 30 #[.slice (some ⟨b, o, none⟩) (k + 4) c] w fun e w' => e = .returned (.bool (decide ([x0, x1, x2, x3] = low (Crc.sum pre)))) ∧ Below w.heap.size w w' := by
  have hk0 : (0 : Int) ≤ k := by omega
  have HK := hid hk
  have HP := hid hpre
  have HF := hid hf
  have HB := hid hb
  have hc2 : Hid (pre.length ≤ c ∧ c ≤ maxLen) := hid ⟨by omega, by unfold maxLen; omega⟩
  have hfl : Hid ([pre].flatten = pre) := hid (by simp)
  have hck : (k : Int) ≤ c := by omega
  have hck4 : (k : Int) ≤ k + 4 := by omega
  have hpt := Pt.below (pt_pre hpre hb (Below.refl _ _) c hc2.out 22 k hk) ((Below.refl _ _).drew)
  have H9 := hid (sum_any _ 1 _ _ _ hpt (by show [pre].flatten.length ≤ _; rw [hfl.out]; omega) (by simp))
  have HBX : Hid (Below w.heap.size w (w.alloc (.cells #[.slice (some ⟨b, o, none⟩) k c] 22)).drew) := hid (((Below.refl _ _).alloc (Nat.le_refl _) _).drew)
  have hsl := Crc.sum_lt pre hb
  rw [hfl.out] at H9
  generalize Crc.sum pre = s at *
  clear hk hpre hf hb hpt
  have harr := arr4
  have heqq := fun w => eq_low w x0 x1 x2 x3 s
  go_enter Try.func30, Try.ntmps30
  go_wp2_with fail
  go_region_held3 (fun w' => Below w.heap.size w w' ∧ w'.cell? ⟨b, o + k, none⟩ = some (.int .u8 (x0 : Int)) ∧ w'.cell? ⟨b, o + k + 1, none⟩ = some (.int .u8 (x1 : Int)) ∧ w'.cell? ⟨b, o + k + 2, none⟩ = some (.int .u8 (x2 : Int)) ∧ w'.cell? ⟨b, o + k + 3, none⟩ = some (.int .u8 (x3 : Int)))
    (exact HF.out.of (by repeat (first | exact Below.refl _ _ | assumption | apply Below.drew | refine Below.alloc ?_ (by first | exact Nat.le_refl _ | (simp; done)) _)))
    (first | (go_at_call 35; refine H9.out.mono ?_; rintro e w1 ⟨rfl, hb1⟩; have hbw := Below.trans HBX.out (hb1.mono HBX.out.size); clear hb1) | (go_at_call 34; refine (ending_any _ _ hsl).mono ?_; rintro e w2 ⟨rfl, hb2⟩; have hbw2 := Below.trans hbw (hb2.mono hbw.size); clear hb2))
  all_goals
    go_wp2_with fail
    go_ret
    exact ⟨rfl, by assumption⟩

/-- Are the last four bytes the sum of all ahead of them? -/
def holds (bs : List Nat) : Bool := decide (4 ≤ bs.length ∧ bs.drop (bs.length - 4) = low (Crc.sum (bs.take (bs.length - 4))))
theorem last_four {l : List Nat} (h : l.length = 4) : l = [l.getD 0 0, l.getD 1 0, l.getD 2 0, l.getD 3 0] := by
  match l, h with
  | [a, b, c, d], _ => rfl
theorem holds_any (ok : Nat → Prop) (a : Option Addr) (c : Nat) (bs : List Nat) (w : World) (hs : Sl ok w a bs) (hby : Bytes bs) (hc : bs.length ≤ c) (hm : c ≤ maxLen) :
    Calls Try.prog 30 #[.slice a bs.length c] w fun e w' => e = .returned (.bool (holds bs)) ∧ Below w.heap.size w w' := by
  by_cases h4 : bs.length < 4
  · refine (holds_short a bs.length c w (by omega)).mono ?_
    rintro e w' ⟨rfl, rfl⟩
    refine ⟨ret_bool ?_, Below.refl _ _⟩
    symm
    unfold holds
    rw [decide_eq_false_iff_not]
    omega
  · have hs' : Sl (fun b => b < w.heap.size) w a bs := hs.mono fun _ _ h => h
    rcases hs with rfl | ⟨b, o, rfl, _, hcell⟩
    · simp at h4
    · have hk : bs.length - 4 + 4 = bs.length := by omega
      have hpl : (bs.take (bs.length - 4)).length = bs.length - 4 := by rw [List.length_take]; omega
      have hdl : (bs.drop (bs.length - 4)).length = 4 := by rw [List.length_drop]; omega
      have hd : ∀ j, j < 4 → (bs.drop (bs.length - 4)).getD j 0 = bs.getD (bs.length - 4 + j) 0 := by
        intro j hj
        simp only [List.getD_eq_getElem?_getD, List.getElem?_drop]
      have hf : Four w w b (o + (bs.length - 4)) ((bs.drop (bs.length - 4)).getD 0 0) ((bs.drop (bs.length - 4)).getD 1 0) ((bs.drop (bs.length - 4)).getD 2 0) ((bs.drop (bs.length - 4)).getD 3 0) := by
        refine ⟨Below.refl _ _, ?_, ?_, ?_, ?_⟩
        · rw [hd 0 (by omega), ← hcell _ (by omega)]; rfl
        · rw [hd 1 (by omega), ← hcell _ (by omega)]; rfl
        · rw [hd 2 (by omega), ← hcell _ (by omega)]; rfl
        · rw [hd 3 (by omega), ← hcell _ (by omega)]; rfl
      have H := holds_long b o (bs.length - 4) c (bs.take (bs.length - 4)) _ _ _ _ w hpl (hby.take _) (hs'.front _) hf (by omega) (by unfold maxLen at hm; omega)
      rw [hk] at H
      refine H.mono ?_
      rintro e w' ⟨rfl, hb⟩
      refine ⟨ret_bool ?_, hb⟩
      rw [← last_four hdl]
      unfold holds
      congr 1
      simp [show 4 ≤ bs.length by omega]
end Go.Proofs.Ytmdimhijbmeioaa

