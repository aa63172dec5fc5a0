/- CONTRACTS: Put, Size, List, Text, and the document's list. -/
import Derived.Test.YtbhpfdpcafdeaaaVarD
namespace Go.Proofs.Ytbhpfdpcafdeaaa
open Go.RowKit Go.Inc

theorem put_neg (ok : Nat → Prop) (a : Option Addr) (c : Nat) (zs : List Int) (w : World) (hs : Si ok w a zs) (hl : zs.length ≤ 9223372036854775807) (hn : anyNeg zs = true) :
    Calls Try.prog 59 #[.slice a zs.length c] w fun e w' => e = .returned (.slice none 0 0) ∧ w = w' := by
  have H := hid (contains_any ok a c zs w hs hl)
  have HN := hid hn
  clear hs hl hn
  go_enter Try.func59, Try.ntmps59
  go_wp2_with fail
  refine H.out.mono ?_
  rintro e w' ⟨rfl, rfl⟩
  rw [HN.out]
  go_wp2_with fail
  go_ret
  exact ⟨rfl, rfl⟩
theorem put_nil (a : Option Addr) (c : Nat) (w : World) :
    Calls Try.prog 59 #[.slice a 0 c] w fun e w' => e = .returned (.slice none 0 0) ∧ w = w' := by
  have H : Hid (Calls Try.prog 36 #[.slice a 0 c, .func (Fn.func 58) #[] #[]] w fun e w' => e = .returned (.bool (anyNeg [])) ∧ w = w') := hid (contains_any (fun _ => True) a c [] w (Si.nil _ _ _) (by decide))
  go_enter Try.func59, Try.ntmps59
  go_wp2_with fail
  refine H.out.mono ?_
  rintro e w' ⟨rfl, rfl⟩
  rw [show anyNeg [] = false from rfl]
  go_wp2_with fail
  go_loop [3, 10] (fun v i => v = .slice none 0 0 ∧ i = .int .i64 0) (fun _ _ => 0)
  case atStart => exact ⟨rfl, rfl⟩
  case round =>
    obtain ⟨rfl, rfl⟩ := hrel
    go_wp2_with fail
    go_ret
    exact ⟨rfl, rfl⟩
set_option maxHeartbeats 1000000 in
theorem put_some (b off c : Nat) (zs : List Int) (w : World) (hc : ∀ i, i < zs.length → w.cell? ⟨b, off + i, none⟩ = some (.int .i64 (zs.getD i 0))) (hl : zs.length ≤ 1099511627776) (hn : anyNeg zs = false) (hz : ∀ z ∈ zs, z ≤ 9223372036854775807) :
    Calls Try.prog 59 #[.slice (some ⟨b, off, none⟩) zs.length c] w fun e w' => ∃ v, e = .returned v ∧ Row 5 w.heap.size w' v (puts zs) ∧ Below w.heap.size w w' := by
  have H := hid (contains_any (fun _ => True) (some ⟨b, off, none⟩) c zs w (.inr ⟨b, off, rfl, trivial, hc⟩) (by omega))
  have HN := hid hn
  have HC := hid hc
  have HZ := hid hz
  have hl' : (zs.length : Int) ≤ 1099511627776 := by omega
  clear hl hn hc hz
  go_enter Try.func59, Try.ntmps59
  go_wp2_with fail
  refine H.out.mono ?_
  rintro e w' ⟨rfl, rfl⟩
  rw [HN.out]
  clear H
  go_wp2_with fail
  go_loopw [3, 10] (fun v i wr => ∃ k : Nat, k ≤ zs.length ∧ i = .int .i64 (k : Int) ∧ Row 5 w.heap.size wr v (puts (zs.take k)) ∧ Below w.heap.size w wr) (fun _ i _ => zs.length - (intOf i).toNat)
  case atStart => exact ⟨0, Nat.zero_le _, rfl, Row.nil _ _ _, Below.refl _ _⟩
  case round =>
    obtain ⟨k, hk, rfl, hr, hb⟩ := hrel
    have HR := hid hr
    clear hr
    by_cases hlt : (k : Int) < zs.length
    · have hcell := HC.out k (by omega)
      rw [← hb.cell (cell_lt hcell)] at hcell
      have hz0 := anyNeg_get HN.out (k := k) (by omega)
      have hz1 : zs.getD k 0 ≤ 9223372036854775807 := by
        rw [List.getD_eq_getElem?_getD, List.getElem?_eq_getElem (by omega)]
        exact HZ.out _ (List.getElem_mem _)
      have hs := hid (puts_snoc (zs := zs) (k := k) (by omega))
      have hpl := hid (puts_len (zs.take k) (fun z hz => HZ.out z (List.mem_of_mem_take hz)))
      have hlen : Hid ((puts (zs.take k)).length ≤ 70368744177664) := hid (by
        have := hpl.out
        rw [List.length_take] at this
        omega)
      generalize zs.getD k 0 = z at *
      have HL : Hid (Calls Try.prog 62 #[u3, .int .u64 z] wr fun e w' => ∃ v', e = .returned v' ∧ Row 5 w.heap.size w' v' (puts (zs.take k) ++ Var.put z.toNat) ∧ Below w.heap.size wr w') := hid (by
        have h := lay_any w.heap.size u3 (puts (zs.take k)) z.toNat wr HR.out hb.size (by omega) hlen.out
        rw [Int.toNat_of_nonneg hz0] at h
        exact h)
      go_wp2_with fail
      refine HL.out.mono ?_
      rintro e w2 ⟨v2, rfl, hr2, hb2⟩
      have HR2 := hid hr2
      have HB2 := hid (hb.trans hb2)
      clear hr2 hb2
      go_wp2_with fail
      go_roundw
      case rel => exact ⟨k + 1, by omega, by go_num, by rw [hs.out]; exact HR2.out, HB2.out⟩
      case measure => simp [intOf]; omega
    · have hlt' : (zs.length : Int) ≤ k := by omega
      clear hlt
      have hR2 := HR.out
      rw [List.take_of_length_le (by omega)] at hR2
      have HR2 := hid hR2
      clear hR2
      go_wp2_with fail
      go_ret
      exact ⟨_, rfl, HR2.out, hb⟩
/-- The numbers' bytes; nothing, if one is below 0. -/
def putOf (zs : List Int) : List Nat := if anyNeg zs then [] else puts zs
theorem put_any (ok : Nat → Prop) (a : Option Addr) (c : Nat) (zs : List Int) (w : World) (hs : Si ok w a zs) (hl : zs.length ≤ 1099511627776) (hz : ∀ z ∈ zs, z ≤ 9223372036854775807) :
    Calls Try.prog 59 #[.slice a zs.length c] w fun e w' => ∃ v, e = .returned v ∧ Row 5 w.heap.size w' v (putOf zs) ∧ Below w.heap.size w w' := by
  unfold putOf
  by_cases hn : anyNeg zs = true
  · rw [if_pos hn]
    refine (put_neg ok a c zs w hs (by omega) hn).mono ?_
    rintro e w' ⟨rfl, rfl⟩
    exact ⟨_, rfl, Row.nil _ _ _, Below.refl _ _⟩
  · rw [if_neg hn]
    rcases hs with rfl | ⟨b, off, rfl, _, hc⟩
    · refine (put_nil a c w).mono ?_
      rintro e w' ⟨rfl, rfl⟩
      exact ⟨_, rfl, Row.nil _ _ _, Below.refl _ _⟩
    · exact put_some b off c zs w hc hl (by simpa using hn) hz

end Go.Proofs.Ytbhpfdpcafdeaaa

