/- CONTRACTS: List, the document's list, Text, the known examples. -/
import Derived.Test.YtbhpfdpcafdeaaaVarE
namespace Go.Proofs.Ytbhpfdpcafdeaaa
open Go.RowKit Go.Inc

theorem Si.one (w : World) (z : Int) (T : TypeId) : Si (fun b => b = w.heap.size) (w.alloc (.cells #[.int .i64 z] T)) (some ⟨w.heap.size, 0, none⟩) [z] :=
  .inr ⟨_, _, rfl, rfl, fun i hi => by
    have h0 : i = 0 := by simp at hi; omega
    subst h0
    rw [cell_of_row _ w.heap.size _ _ _ _ (heap_alloc_new w _)]; rfl⟩
/-- A row, and behind it whatever lies in a slice. -/
theorem row_more {w : World} {E B : Nat} {v : Value} {xs ys : List Nat} {n m : Nat} (h : w.ownsRow B E 1 v (n + m) (u8s xs ++ u8s ys)) (hn : n = xs.length) (hm : m = ys.length) : Row E B w v (xs ++ ys) := by
  subst hn hm
  unfold Row
  rw [u8s_append, List.length_append]
  exact h

/-- The list's bytes; nothing, if a number is below 0. -/
def listOf (zs : List Int) : List Nat := if anyNeg zs then [] else Var.put zs.length ++ puts zs
set_option maxHeartbeats 1000000 in
theorem list_good (ok : Nat → Prop) (a : Option Addr) (c : Nat) (zs : List Int) (w : World) (hs : Si ok w a zs) (hl : zs.length ≤ 1099511627776) (hz : ∀ z ∈ zs, z ≤ 9223372036854775807) (hn : anyNeg zs = false) :
    Calls Try.prog 50 #[.slice a zs.length c] w fun e w' => ∃ v, e = .returned v ∧ Row 5 w.heap.size w' v (Var.put zs.length ++ puts zs) ∧ Below w.heap.size w w' := by
  have H := hid (contains_any ok a c zs w hs (by omega))
  have hb1 : Below w.heap.size w (w.alloc (.cells #[.int .i64 (zs.length : Int)] 3)) := (Below.refl _ _).alloc (Nat.le_refl _) _
  have e1 : putOf [(zs.length : Int)] = Var.put zs.length := by
    have : anyNeg [(zs.length : Int)] = false := by simp [anyNeg]
    unfold putOf
    rw [this]
    simp [puts]
  have H1 := put_any _ _ 1 [(zs.length : Int)] _ (Si.one w (zs.length : Int) 3) (by simp) (by simp; omega)
  rw [e1] at H1
  have H1 := hid H1
  have HS := hid hs
  have HN := hid hn
  have HZ := hid hz
  have HB1 := hid hb1
  have hl' : (zs.length : Int) ≤ 1099511627776 := by omega
  have HL := hid hl
  clear hs hn hz hb1 e1 hl
  go_enter Try.func50, Try.ntmps50
  go_wp2_with fail
  refine H.out.mono ?_
  rintro e w' ⟨rfl, rfl⟩
  rw [HN.out]
  go_wp2_with fail
  refine H1.out.mono ?_
  rintro e w2 ⟨v2, rfl, hr2, hb2⟩
  have HR2 : Hid (Row 5 w.heap.size w2 v2 (Var.put zs.length)) := hid (hr2.weaken HB1.out.size)
  have HB2 := hid (HB1.out.trans (hb2.mono HB1.out.size))
  have H3 := put_any ok a c zs w2 (HS.out.below HB2.out) HL.out HZ.out
  unfold putOf at H3
  rw [HN.out] at H3
  have H3 := hid H3
  clear hr2 hb2 H1 H
  go_wp2_with fail
  refine H3.out.mono ?_
  rintro e w3 ⟨v3, rfl, hr3, hb3⟩
  have hr3 : Row 5 w2.heap.size w3 v3 (puts zs) := hr3
  obtain ⟨a3, c3, rfl, hn3, hc3, hm3, hs3⟩ := hr3.sl
  have HR3 := hid (HR2.out.kept hb3)
  have HB3 := hid (HB2.out.trans (hb3.mono HB2.out.size))
  have HS3 := hid hs3
  have HLL : Hid ((Var.put zs.length).length ≤ 10 ∧ (puts zs).length ≤ 10 * zs.length) := hid ⟨Var.put_ten (by omega), puts_len zs HZ.out⟩
  clear hr3 hb3 hn3 hs3 H3
  go_wp2_with (refine wpList_append_any rfl (.tmp 8) (.tmp 10) 49 rfl w.heap.size 5 (.int .u8 0) 1 Try.underlying49 infoU8 rfl _ _ _ rfl HR3.out a3 _ _ (u8s (puts zs)) rfl (u8s_length _) (HS3.out.some_len) HS3.out.cells (u8s_one _) (by have := HLL.out; unfold maxLen; omega) (by have := HLL.out; omega) (by have := HB3.out.size; omega) ?_)
  intro v4 w4 hv4 hg4 _
  have hb4 := below_owned HB3.out HR3.out (Nat.le_refl _) hg4
  have HV4 := hid (row_more hv4 rfl rfl)
  clear hv4 hg4
  go_wp2_with fail
  go_ret
  exact ⟨_, rfl, HV4.out, hb4⟩
theorem list_any (ok : Nat → Prop) (a : Option Addr) (c : Nat) (zs : List Int) (w : World) (hs : Si ok w a zs) (hl : zs.length ≤ 1099511627776) (hz : ∀ z ∈ zs, z ≤ 9223372036854775807) :
    Calls Try.prog 50 #[.slice a zs.length c] w fun e w' => ∃ v, e = .returned v ∧ Row 5 w.heap.size w' v (listOf zs) ∧ Below w.heap.size w w' := by
  unfold listOf
  by_cases hn : anyNeg zs = true
  · rw [if_pos hn]
    have H := hid (contains_any ok a c zs w hs (by omega))
    have HN := hid hn
    clear hs hl hn hz
    go_enter Try.func50, Try.ntmps50
    go_wp2_with fail
    refine H.out.mono ?_
    rintro e w' ⟨rfl, rfl⟩
    rw [HN.out]
    go_wp2_with fail
    go_ret
    exact ⟨_, rfl, Row.nil _ _ _, Below.refl _ _⟩
  · rw [if_neg hn]
    exact list_good ok a c zs w hs hl hz (by simpa using hn)

set_option maxHeartbeats 1000000 in
theorem refList_any (ok : Nat → Prop) (a : Option Addr) (c : Nat) (zs : List Int) (w : World) (hs : Si ok w a zs) (hl : zs.length ≤ 1099511627776) (hz : ∀ z ∈ zs, z ≤ 9223372036854775807) (hn : anyNeg zs = false) :
    Calls Try.prog 26 #[.slice a zs.length c] w fun e w' => ∃ v, e = .returned v ∧ Row 5 w.heap.size w' v (Var.put zs.length ++ puts zs) ∧ Below w.heap.size w w' := by
  have H1 : Hid (Calls Try.prog 47 #[.int .u64 (zs.length : Int)] w fun e w' => ∃ v', e = .returned v' ∧ Row 5 w.heap.size w' v' (Var.put zs.length) ∧ Below w.heap.size w w') := hid (refPut_any zs.length w (by omega))
  have HS := hid hs
  have HN := hid hn
  have HZ := hid hz
  have HLL : Hid ((Var.put zs.length).length ≤ 10) := hid (Var.put_ten (by omega))
  have hl' : (zs.length : Int) ≤ 1099511627776 := by omega
  have HL := hid hl
  clear hs hn hz hl
  go_enter Try.func26, Try.ntmps26
  go_wp2_with fail
  refine H1.out.mono ?_
  rintro e w2 ⟨v2, rfl, hr2, hb2⟩
  have HR2 := hid hr2
  have HB2 := hid hb2
  clear hr2 hb2 H1
  go_wp2_with fail
  go_loopw [3, 4] (fun v i wr => ∃ k : Nat, k ≤ zs.length ∧ i = .int .i64 (k : Int) ∧ Row 5 w.heap.size wr v (Var.put zs.length ++ puts (zs.take k)) ∧ Below w.heap.size w wr) (fun _ i _ => zs.length - (intOf i).toNat)
  case atStart => exact ⟨0, Nat.zero_le _, rfl, by simpa [puts] using HR2.out, HB2.out⟩
  case round =>
    obtain ⟨k, hk, rfl, hr, hb⟩ := hrel
    have HR := hid hr
    clear hr
    by_cases hlt : (k : Int) < zs.length
    · have hcell : ∃ b off, Hid (a = some ⟨b, off, none⟩) ∧ wr.cell? ⟨b, off + k, none⟩ = some (.int .i64 (zs.getD k 0)) := by
        rcases HS.out with h | ⟨b, off, h, _, hc⟩
        · rw [h] at hlt; simp at hlt; omega
        · exact ⟨b, off, hid h, by rw [hb.cell (cell_lt (hc k (by omega)))]; exact hc k (by omega)⟩
      obtain ⟨b, off, ha, hcell⟩ := hcell
      have ha2 := ha.out
      subst ha2
      have hz0 := anyNeg_get HN.out (k := k) (by omega)
      have hz1 : zs.getD k 0 ≤ 9223372036854775807 := by
        rw [List.getD_eq_getElem?_getD, List.getElem?_eq_getElem (by omega)]
        exact HZ.out _ (List.getElem_mem _)
      have hs := hid (puts_snoc (zs := zs) (k := k) (by omega))
      have hlen : Hid ((Var.put zs.length ++ puts (zs.take k)).length ≤ 10995116277770) := hid (by
        have := puts_len (zs.take k) (fun z hz => HZ.out z (List.mem_of_mem_take hz))
        have := HLL.out
        rw [List.length_take] at *
        rw [List.length_append]
        omega)
      generalize zs.getD k 0 = z at *
      have HP : Hid (Calls Try.prog 47 #[.int .u64 z] wr fun e w' => ∃ v', e = .returned v' ∧ Row 5 wr.heap.size w' v' (Var.put z.toNat) ∧ Below wr.heap.size wr w') := hid (by
        have h := refPut_any z.toNat wr (by omega)
        rw [Int.toNat_of_nonneg hz0] at h
        exact h)
      have hzl : Hid ((Var.put z.toNat).length ≤ 10) := hid (Var.put_ten (by omega))
      go_wp2_with fail
      refine HP.out.mono ?_
      rintro e w3 ⟨v3, rfl, hr3, hb3⟩
      obtain ⟨a3, c3, rfl, hn3, hc3, hm3, hs3⟩ := hr3.sl
      have HR3 := hid (HR.out.kept hb3)
      have HB3 := hid (hb.trans (hb3.mono hb.size))
      have HS3 := hid hs3
      have HSZ := hid hb.size
      clear hr3 hb3 hn3 hs3 HP hb
      go_wp2_with (refine wpList_append_any rfl (.tmp 15) (.tmp 21) 49 rfl w.heap.size 5 (.int .u8 0) 1 Try.underlying49 infoU8 rfl _ _ _ rfl HR3.out a3 _ _ (u8s (Var.put z.toNat)) rfl (u8s_length _) (HS3.out.some_len) HS3.out.cells (u8s_one _) (by have := hlen.out; have := hzl.out; unfold maxLen; omega) (by have := hlen.out; have := hzl.out; omega) (by have := HB3.out.size; omega) ?_)
      intro v4 w4 hv4 hg4 _
      have hb4 := below_owned HB3.out HR3.out (Nat.le_refl _) hg4
      have HV4 := hid (row_more hv4 (by rw [List.length_append]) rfl)
      clear hv4 hg4
      go_wp2_with fail
      go_roundw
      case rel => exact ⟨k + 1, by omega, by go_num, by rw [hs.out, ← List.append_assoc]; exact HV4.out, hb4⟩
      case measure => simp [intOf]; omega
    · have hlt' : (zs.length : Int) ≤ k := by omega
      clear hlt
      have hR2 := HR.out
      rw [List.take_of_length_le (by omega)] at hR2
      have HR2 := hid hR2
      clear hR2
      go_wp2_with fail
      go_ret
      exact ⟨_, rfl, HR2.out, hb⟩
end Go.Proofs.Ytbhpfdpcafdeaaa

